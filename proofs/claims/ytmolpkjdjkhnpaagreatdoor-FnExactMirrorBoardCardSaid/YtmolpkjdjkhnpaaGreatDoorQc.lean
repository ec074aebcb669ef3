/-
  Texts of this seat in one module: RulC, IsRulesI, RulR, RulS, BrdI, BrdJ, BrdK, SzP, RulL, TabV, Tab, RdS, MapW.
-/
import Derived.Test.YtmolpkjdjkhnpaaGreatDoorCards
import Derived.Test.YtmolpkjdjkhnpaaGreatDoorTie
import Derived.Deep.DeepHandedRow
import Derived.Lib.LaidTab
import Derived.FnData
import Derived.Lib.SmallJoins
import Derived.Deep.Fields
import Derived.Deep.Slices
import Derived.Test.YtmolpkjdjkhnpaaGreatDoorQa
import Derived.Test.YtmolpkjdjkhnpaaGreatDoorQb

/-
  The laws' copy of rules: the same lists and numbers, in memory of its own. Nothing that was there is changed.
-/
namespace Go.Proofs.YtmolpkjdjkhnpaaGreatDoor
open Go.RowKit

set_option maxRecDepth 100000 in
set_option maxHeartbeats 1000000 in
theorem toTerrain_any (nm : ByteArray) (A : Option Addr) (nc cc : Nat) (s h : Int) (b : Bool) (l : List Int) (w : World) (hr : RdI w (.slice A nc cc) l) (hn : nc ≤ 1048576) :
    Calls Tryz.prog 67 #[tv nm A nc cc s h b] w fun e w' => ∃ A' c', e = .returned (tv nm A' nc c' s h b) ∧ OwnI w' (w.heap.size + 1) (.slice A' nc c') l ∧ Kp w w' := by
  have hl := hr.of_slice
  have C : Hid (∀ w, RdI w (.slice A nc cc) l → Calls Tryz.prog 39 #[.slice A nc cc] w fun e w' => ∃ A c, e = .returned (.slice A nc c) ∧ OwnI w' w.heap.size (.slice A nc c) l ∧ Kp w w') := Lib.hid fun w h => by
    have := toIntS_sl _ l w h (by omega)
    rw [hl] at this
    exact this
  have HR := Lib.hid hr
  clear hr hl
  go_enter Tryz.func67, Tryz.ntmps67
  go_wp2_with fail
  have k0 : Kp w (((w.alloc (.cells #[.string nm, .slice A nc cc, .int .i64 s, .int .i64 h, .bool b] 83)).alloc (.cells #[.string ByteArray.empty, .slice none 0 0, .int .i64 0, .int .i64 0, .bool false] 65)).alloc (.cells #[.string nm, .slice none 0 0, .int .i64 0, .int .i64 0, .bool false] 65)) := (((Kp.refl w).alloc _).alloc _).alloc _
  refine (C.out _ (HR.out.keep k0)).mono ?_
  rintro e1 w1 ⟨A1, c1, rfl, o1, k1⟩
  have a2 : w1.cell? ⟨w.heap.size, 2, none⟩ = some (.int .i64 s) := k1.cell (by simp [go_sem])
  have a3 : w1.cell? ⟨w.heap.size, 3, none⟩ = some (.int .i64 h) := k1.cell (by simp [go_sem])
  have a4 : w1.cell? ⟨w.heap.size, 4, none⟩ = some (.bool b) := k1.cell (by simp [go_sem])
  have L1 : Live5 w1 (w.heap.size + 1) (.string ByteArray.empty) (.slice none 0 0) (.int .i64 0) (.int .i64 0) (.bool false) := live5_keep k1 ⟨by simp [go_sem], by simp [go_sem], by simp [go_sem], by simp [go_sem], by simp [go_sem]⟩
  have M1 : Live5 w1 (w.heap.size + 1 + 1) (.string nm) (.slice none 0 0) (.int .i64 0) (.int .i64 0) (.bool false) := live5_keep k1 ⟨by simp [go_sem], by simp [go_sem], by simp [go_sem], by simp [go_sem], by simp [go_sem]⟩
  have K1 : Kp w w1 := k0.trans k1
  have z1 : w.heap.size + 3 ≤ w1.heap.size := by have := k1.size; simp at this; omega
  have O1 := Lib.hid (o1.base (b := w.heap.size + 3) (by simp <;> omega))
  clear k0 k1 o1
  go_wp2_with fail
  have n1 : ∀ g, g < w.heap.size + 3 → (Value.slice A1 nc c1).ownBlock ≠ some g := fun g hg => O1.out.not (by omega)
  refine bodyPost_ret (v := tv nm A1 nc c1 s h b) (by simp [results, Tryz.results67, go_sem, *]) rfl ⟨_, _, rfl, ?_, ?_⟩
  · exact (((((((((O1.out.far (n1 _ (by omega)) _).far (n1 _ (by omega)) _).far (n1 _ (by omega)) _).far (n1 _ (by omega)) _).far (n1 _ (by omega)) _).far (n1 _ (by omega)) _).far (n1 _ (by omega)) _).far (n1 _ (by omega)) _).far (n1 _ (by omega)) _).base (by omega)
  · exact ((((((((K1.setCell (by simp <;> omega) _).setCell (by simp <;> omega) _).setCell (by simp <;> omega) _).setCell (by simp <;> omega) _).setCell (by simp <;> omega) _).setCell (by simp <;> omega) _).setCell (by simp <;> omega) _).setCell (by simp <;> omega) _).setCell (by simp <;> omega) _

set_option maxRecDepth 100000 in
set_option maxHeartbeats 1000000 in
theorem toKind_any (nm : ByteArray) (a b c : Int) (z : Bool) (v : Int) (w : World) :
    Calls Tryz.prog 68 #[kv nm a b c z v] w fun e w' => e = .returned (kv nm a b c z v) ∧ Kp w w' := by
  go_enter Tryz.func68, Tryz.ntmps68
  go_wp2_with fail
  exact bodyPost_ret (v := kv nm a b c z v) (by simp [results, Tryz.results68, go_sem]) rfl ⟨rfl, (((Kp.refl w).alloc _).alloc _).alloc _⟩

theorem infoTer : (Tryz.prog.info? 65).map (fun i => (i.zero, i.size, i.bytes)) = some (some (tv ByteArray.empty none 0 0 0 0 false), 5, 64) := by kernel_rfl
theorem infoKnd : (Tryz.prog.info? 76).map (fun i => (i.zero, i.size, i.bytes)) = some (some (kv ByteArray.empty 0 0 0 false 0), 6, 56) := by kernel_rfl
theorem mkTers (n : Nat) (hn : n ≤ 1048576) (w : World) :
    (Instr.makeSlice 32 (.int .i64 (n : Int)) (.int .i64 (n : Int))).run Tryz.prog w = .ok (.slice (some ⟨w.heap.size, 0, none⟩) n n) (w.alloc (.cells (madeCells (tv ByteArray.empty none 0 0 0 0 false).cells (n * 5)) 65)) := by
  obtain ⟨i, hi, hz, hs, hb⟩ := info_parts infoTer
  have hr := run_make (P := Tryz.prog) w 32 65 i (tv ByteArray.empty none 0 0 0 0 false) Tryz.underlying32 hi hz .i64 .i64 (n : Int) (n : Int) (by omega) (by omega) (by rw [hb]; omega) (by omega)
  rw [hs, Int.toNat_natCast] at hr
  exact hr
theorem mkKnds (n : Nat) (hn : n ≤ 1048576) (w : World) :
    (Instr.makeSlice 33 (.int .i64 (n : Int)) (.int .i64 (n : Int))).run Tryz.prog w = .ok (.slice (some ⟨w.heap.size, 0, none⟩) n n) (w.alloc (.cells (madeCells (kv ByteArray.empty 0 0 0 false 0).cells (n * 6)) 76)) := by
  obtain ⟨i, hi, hz, hs, hb⟩ := info_parts infoKnd
  have hr := run_make (P := Tryz.prog) w 33 76 i (kv ByteArray.empty 0 0 0 false 0) Tryz.underlying33 hi hz .i64 .i64 (n : Int) (n : Int) (by omega) (by omega) (by rw [hb]; omega) (by omega)
  rw [hs, Int.toNat_natCast] at hr
  exact hr

/-- The cells of a copied terrain, at a place of a row's list. -/
def TerIn (ys : List Value) (j : Nat) (x : Ter) (c : Option Addr × Nat) : Prop :=
  ys[j * 5]? = some (.string x.name) ∧ ys[j * 5 + 1]? = some (.slice c.1 x.cost.length c.2) ∧ ys[j * 5 + 2]? = some (.int .i64 x.shift) ∧ ys[j * 5 + 3]? = some (.int .i64 x.height) ∧ ys[j * 5 + 4]? = some (.bool x.blocks)
def KndIn (ys : List Value) (j : Nat) (x : Knd) : Prop :=
  ys[j * 6]? = some (.string x.name) ∧ ys[j * 6 + 1]? = some (.int .i64 x.str) ∧ ys[j * 6 + 2]? = some (.int .i64 x.mov) ∧ ys[j * 6 + 3]? = some (.int .i64 x.stp) ∧ ys[j * 6 + 4]? = some (.bool x.zone) ∧ ys[j * 6 + 5]? = some (.int .i64 x.view)
def set5 (ys : List Value) (k : Nat) (a b c d e : Value) : List Value := ((((ys.set (k * 5) a).set (k * 5 + 1) b).set (k * 5 + 2) c).set (k * 5 + 3) d).set (k * 5 + 4) e
def set6 (ys : List Value) (k : Nat) (a b c d e f : Value) : List Value := (((((ys.set (k * 6) a).set (k * 6 + 1) b).set (k * 6 + 2) c).set (k * 6 + 3) d).set (k * 6 + 4) e).set (k * 6 + 5) f
theorem set5_other {ys : List Value} {k j : Nat} {a b c d e : Value} (h : ∀ i, i < 5 → k * 5 + i ≠ j) : (set5 ys k a b c d e)[j]? = ys[j]? := by
  unfold set5
  have h0 := h 0 (by omega); have h1 := h 1 (by omega); have h2 := h 2 (by omega); have h3 := h 3 (by omega); have h4 := h 4 (by omega)
  rw [List.getElem?_set_ne h4, List.getElem?_set_ne h3, List.getElem?_set_ne h2, List.getElem?_set_ne h1, List.getElem?_set_ne (by omega)]
theorem set6_other {ys : List Value} {k j : Nat} {a b c d e f : Value} (h : ∀ i, i < 6 → k * 6 + i ≠ j) : (set6 ys k a b c d e f)[j]? = ys[j]? := by
  unfold set6
  have h0 := h 0 (by omega); have h1 := h 1 (by omega); have h2 := h 2 (by omega); have h3 := h 3 (by omega); have h4 := h 4 (by omega); have h5 := h 5 (by omega)
  rw [List.getElem?_set_ne h5, List.getElem?_set_ne h4, List.getElem?_set_ne h3, List.getElem?_set_ne h2, List.getElem?_set_ne h1, List.getElem?_set_ne (by omega)]
theorem terIn_new {ys : List Value} {k n : Nat} {x : Ter} {c : Option Addr × Nat} (hl : ys.length = n * 5) (hk : k < n) : TerIn (set5 ys k (.string x.name) (.slice c.1 x.cost.length c.2) (.int .i64 x.shift) (.int .i64 x.height) (.bool x.blocks)) k x c := by
  unfold TerIn set5
  refine ⟨?_, ?_, ?_, ?_, ?_⟩
  · rw [List.getElem?_set_ne (by omega), List.getElem?_set_ne (by omega), List.getElem?_set_ne (by omega), List.getElem?_set_ne (by omega), List.getElem?_set_self (by omega)]
  · rw [List.getElem?_set_ne (by omega), List.getElem?_set_ne (by omega), List.getElem?_set_ne (by omega), List.getElem?_set_self (by simp only [List.length_set]; omega)]
  · rw [List.getElem?_set_ne (by omega), List.getElem?_set_ne (by omega), List.getElem?_set_self (by simp only [List.length_set]; omega)]
  · rw [List.getElem?_set_ne (by omega), List.getElem?_set_self (by simp only [List.length_set]; omega)]
  · rw [List.getElem?_set_self (by simp only [List.length_set]; omega)]
theorem kndIn_new {ys : List Value} {k n : Nat} {x : Knd} (hl : ys.length = n * 6) (hk : k < n) : KndIn (set6 ys k (.string x.name) (.int .i64 x.str) (.int .i64 x.mov) (.int .i64 x.stp) (.bool x.zone) (.int .i64 x.view)) k x := by
  unfold KndIn set6
  refine ⟨?_, ?_, ?_, ?_, ?_, ?_⟩
  · rw [List.getElem?_set_ne (by omega), List.getElem?_set_ne (by omega), List.getElem?_set_ne (by omega), List.getElem?_set_ne (by omega), List.getElem?_set_ne (by omega), List.getElem?_set_self (by omega)]
  · rw [List.getElem?_set_ne (by omega), List.getElem?_set_ne (by omega), List.getElem?_set_ne (by omega), List.getElem?_set_ne (by omega), List.getElem?_set_self (by simp only [List.length_set]; omega)]
  · rw [List.getElem?_set_ne (by omega), List.getElem?_set_ne (by omega), List.getElem?_set_ne (by omega), List.getElem?_set_self (by simp only [List.length_set]; omega)]
  · rw [List.getElem?_set_ne (by omega), List.getElem?_set_ne (by omega), List.getElem?_set_self (by simp only [List.length_set]; omega)]
  · rw [List.getElem?_set_ne (by omega), List.getElem?_set_self (by simp only [List.length_set]; omega)]
  · rw [List.getElem?_set_self (by simp only [List.length_set]; omega)]
theorem terIn_old {ys : List Value} {k j : Nat} {a b c' d e : Value} {x : Ter} {c : Option Addr × Nat} (h : TerIn ys j x c) (hj : j < k) : TerIn (set5 ys k a b c' d e) j x c := by
  obtain ⟨h0, h1, h2, h3, h4⟩ := h
  exact ⟨(set5_other (by omega)).trans h0, (set5_other (by omega)).trans h1, (set5_other (by omega)).trans h2, (set5_other (by omega)).trans h3, (set5_other (by omega)).trans h4⟩
theorem kndIn_old {ys : List Value} {k j : Nat} {a b c d e f : Value} {x : Knd} (h : KndIn ys j x) (hj : j < k) : KndIn (set6 ys k a b c d e f) j x := by
  obtain ⟨h0, h1, h2, h3, h4, h5⟩ := h
  exact ⟨(set6_other (by omega)).trans h0, (set6_other (by omega)).trans h1, (set6_other (by omega)).trans h2, (set6_other (by omega)).trans h3, (set6_other (by omega)).trans h4, (set6_other (by omega)).trans h5⟩

/-- Copied terrains: a row in block g, each terrain's costs in a block of their own behind it. -/
structure OwnT (w : World) (g n : Nat) (l : List Ter) (cs : List (Option Addr × Nat)) (ys : List Value) : Prop where
  row : w.ownsRow g 65 5 (.slice (some ⟨g, 0, none⟩) n n) n ys
  here : ∀ (j : Nat) (x : Ter) (c : Option Addr × Nat), l[j]? = some x → cs[j]? = some c → TerIn ys j x c
  each : ∀ (j : Nat) (x : Ter) (c : Option Addr × Nat), l[j]? = some x → cs[j]? = some c → OwnI w (g + 1) (.slice c.1 x.cost.length c.2) x.cost
  apart : ∀ (i j : Nat) (c d : Option Addr × Nat), i < j → cs[i]? = some c → cs[j]? = some d → ∀ (x y k : Nat), (Value.slice c.1 x c.2).ownBlock = some k → (Value.slice d.1 y d.2).ownBlock ≠ some k
structure OwnK (w : World) (g n : Nat) (l : List Knd) (ys : List Value) : Prop where
  row : w.ownsRow g 76 6 (.slice (some ⟨g, 0, none⟩) n n) n ys
  here : ∀ (j : Nat) (x : Knd), l[j]? = some x → KndIn ys j x
theorem OwnT.keep {w w' : World} {g n : Nat} {l : List Ter} {cs : List (Option Addr × Nat)} {ys : List Value} (h : OwnT w g n l cs ys) (k : Kp w w') : OwnT w' g n l cs ys :=
  ⟨ownsRow_keep h.row k, h.here, fun j x c hx hc => (h.each j x c hx hc).keep k, h.apart⟩
theorem OwnK.keep {w w' : World} {g n : Nat} {l : List Knd} {ys : List Value} (h : OwnK w g n l ys) (k : Kp w w') : OwnK w' g n l ys := ⟨ownsRow_keep h.row k, h.here⟩
theorem OwnT.rd {w : World} {g n : Nat} {l : List Ter} {cs : List (Option Addr × Nat)} {ys : List Value} (h : OwnT w g n l cs ys) (hl : l.length = n) (hc : cs.length = n) : RdT w (some ⟨g, 0, none⟩) n l :=
  ⟨hl, fun _ => ⟨g, 0, rfl, fun i x hx => by
    have hi := lt_of_at hx
    have hcs : cs[i]? = some (cs[i]'(by omega)) := List.getElem?_eq_getElem _
    obtain ⟨h0, h1, h2, h3, h4⟩ := h.here i x _ hx hcs
    have hlen : ys.length = n * 5 := h.row.1
    have e := (h.each i x _ hx hcs).rd
    rw [Nat.zero_add]
    refine ⟨_, _, ⟨?_, ?_, ?_, ?_, ?_⟩, e⟩
    · exact (h.row.cellAt (i * 5) (by omega)).trans h0
    · exact (h.row.cellAt (i * 5 + 1) (by omega)).trans h1
    · exact (h.row.cellAt (i * 5 + 2) (by omega)).trans h2
    · exact (h.row.cellAt (i * 5 + 3) (by omega)).trans h3
    · exact (h.row.cellAt (i * 5 + 4) (by omega)).trans h4⟩⟩
theorem OwnK.rd {w : World} {g n : Nat} {l : List Knd} {ys : List Value} (h : OwnK w g n l ys) (hl : l.length = n) : RdK w (some ⟨g, 0, none⟩) n l :=
  ⟨hl, fun _ => ⟨g, 0, rfl, fun i x hx => by
    have hi := lt_of_at hx
    obtain ⟨h0, h1, h2, h3, h4, h5⟩ := h.here i x hx
    rw [Nat.zero_add]
    refine ⟨?_, ?_, ?_, ?_, ?_, ?_⟩
    · exact (h.row.cellAt (i * 6) (by omega)).trans h0
    · exact (h.row.cellAt (i * 6 + 1) (by omega)).trans h1
    · exact (h.row.cellAt (i * 6 + 2) (by omega)).trans h2
    · exact (h.row.cellAt (i * 6 + 3) (by omega)).trans h3
    · exact (h.row.cellAt (i * 6 + 4) (by omega)).trans h4
    · exact (h.row.cellAt (i * 6 + 5) (by omega)).trans h5⟩⟩

theorem stored5 {w : World} {base g n : Nat} {e : TypeId} {ys : List Value} {cap : Nat} (h : w.ownsRow base e 5 (.slice (some ⟨g, 0, none⟩) n cap) n ys) (k : Nat) (a b c d f : Value) :
    ((((((w.setCell ⟨g, k * 5, none⟩ a).setCell ⟨g, k * 5 + 1, none⟩ b).setCell ⟨g, k * 5 + 2, none⟩ c).setCell ⟨g, k * 5 + 3, none⟩ d).setCell ⟨g, k * 5 + 4, none⟩ f)).ownsRow base e 5 (.slice (some ⟨g, 0, none⟩) n cap) n (set5 ys k a b c d f) :=
  (((((h.stored (k * 5) a).1.stored (k * 5 + 1) b).1.stored (k * 5 + 2) c).1.stored (k * 5 + 3) d).1.stored (k * 5 + 4) f).1
theorem stored6 {w : World} {base g n : Nat} {e : TypeId} {ys : List Value} {cap : Nat} (h : w.ownsRow base e 6 (.slice (some ⟨g, 0, none⟩) n cap) n ys) (k : Nat) (a b c d f p : Value) :
    (((((((w.setCell ⟨g, k * 6, none⟩ a).setCell ⟨g, k * 6 + 1, none⟩ b).setCell ⟨g, k * 6 + 2, none⟩ c).setCell ⟨g, k * 6 + 3, none⟩ d).setCell ⟨g, k * 6 + 4, none⟩ f)).setCell ⟨g, k * 6 + 5, none⟩ p).ownsRow base e 6 (.slice (some ⟨g, 0, none⟩) n cap) n (set6 ys k a b c d f p) :=
  ((((((h.stored (k * 6) a).1.stored (k * 6 + 1) b).1.stored (k * 6 + 2) c).1.stored (k * 6 + 3) d).1.stored (k * 6 + 4) f).1.stored (k * 6 + 5) p).1

theorem liveN {w : World} {base g n sz : Nat} {e : TypeId} {ys : List Value} {cap : Nat} (h : w.ownsRow base e sz (.slice (some ⟨g, 0, none⟩) n cap) n ys) {j : Nat} (hj : j < n * sz) : (∃ u, w.cell? ⟨g, j, none⟩ = some u) ∧ w.frozen? ⟨g, j, none⟩ = false := by
  have hlen : ys.length = n * sz := h.1
  exact ⟨⟨_, (h.cellAt j (by omega)).trans (List.getElem?_eq_getElem (by omega))⟩, h.frozenAt j⟩

theorem ownBlock_len (A : Option Addr) (x y c : Nat) : (Value.slice A x c).ownBlock = (Value.slice A y c).ownBlock := by cases A <;> rfl
theorem OwnT.step {w w1 : World} {g n k : Nat} {l : List Ter} {cs : List (Option Addr × Nat)} {ys : List Value} {x : Ter} {A : Option Addr} {c : Nat} (h : OwnT w g n l cs ys) (hcs : cs.length = k) (hx : l[k]? = some x) (hk : k < n) (k1 : Kp w w1) (hg : g < w.heap.size)
    (ho : OwnI w1 (w.heap.size + 1) (.slice A x.cost.length c) x.cost) :
    OwnT (((((w1.setCell ⟨g, k * 5, none⟩ (.string x.name)).setCell ⟨g, k * 5 + 1, none⟩ (.slice A x.cost.length c)).setCell ⟨g, k * 5 + 2, none⟩ (.int .i64 x.shift)).setCell ⟨g, k * 5 + 3, none⟩ (.int .i64 x.height)).setCell ⟨g, k * 5 + 4, none⟩ (.bool x.blocks)) g n l (cs ++ [(A, c)])
      (set5 ys k (.string x.name) (.slice A x.cost.length c) (.int .i64 x.shift) (.int .i64 x.height) (.bool x.blocks)) := by
  have hlen : ys.length = n * 5 := h.row.1
  refine ⟨stored5 (ownsRow_keep h.row k1) k _ _ _ _ _, ?_, ?_, ?_⟩
  · intro j y d hy hd
    rcases Nat.lt_or_ge j k with hj | hj
    · rw [List.getElem?_append_left (by omega)] at hd
      exact terIn_old (h.here j y d hy hd) hj
    · have hj2 : j = k := by have := lt_of_at hd; simp at this; omega
      subst hj2
      rw [List.getElem?_append_right (by omega), hcs, Nat.sub_self] at hd
      obtain rfl : (A, c) = d := by simpa using hd
      rw [hx] at hy
      obtain rfl := Option.some.inj hy
      exact terIn_new (c := (A, c)) hlen hk
  · intro j y d hy hd
    have far : ∀ {v l'} , OwnI w1 (g + 1) v l' → OwnI (((((w1.setCell ⟨g, k * 5, none⟩ (.string x.name)).setCell ⟨g, k * 5 + 1, none⟩ (.slice A x.cost.length c)).setCell ⟨g, k * 5 + 2, none⟩ (.int .i64 x.shift)).setCell ⟨g, k * 5 + 3, none⟩ (.int .i64 x.height)).setCell ⟨g, k * 5 + 4, none⟩ (.bool x.blocks)) (g + 1) v l' := fun {v l'} o => by
      have n1 := o.not (g := g) (by omega)
      exact ((((o.far n1 _).far n1 _).far n1 _).far n1 _).far n1 _
    rcases Nat.lt_or_ge j k with hj | hj
    · rw [List.getElem?_append_left (by omega)] at hd
      exact far ((h.each j y d hy hd).keep k1)
    · have hj2 : j = k := by have := lt_of_at hd; simp at this; omega
      subst hj2
      rw [List.getElem?_append_right (by omega), hcs, Nat.sub_self] at hd
      obtain rfl : (A, c) = d := by simpa using hd
      rw [hx] at hy
      obtain rfl := Option.some.inj hy
      exact far (ho.base (by omega))
  · intro i j c1 d1 hij hc hd x1 y1 b hb hb'
    have hjl : j < k + 1 := by have := lt_of_at hd; simp at this; omega
    rw [List.getElem?_append_left (by omega)] at hc
    rcases Nat.lt_or_ge j k with hj | hj
    · rw [List.getElem?_append_left (by omega)] at hd
      exact h.apart i j c1 d1 hij hc hd x1 y1 b hb hb'
    · have hj2 : j = k := by omega
      subst hj2
      rw [List.getElem?_append_right (by omega), hcs, Nat.sub_self] at hd
      obtain rfl : (A, c) = d1 := by simpa using hd
      have hxi : l[i]? = some (l[i]'(by have := lt_of_at hx; omega)) := List.getElem?_eq_getElem _
      have h1 := (World.ownsRow.lt (h.each i _ c1 hxi hc) b ((ownBlock_len _ _ _ _).trans hb)).2
      have h2 := (World.ownsRow.lt ho b ((ownBlock_len _ _ _ _).trans hb')).1
      omega
theorem OwnK.step {w : World} {g n k : Nat} {l : List Knd} {ys : List Value} {x : Knd} (h : OwnK w g n (l.take k) ys) (hx : l[k]? = some x) (hk : k < n) :
    OwnK ((((((w.setCell ⟨g, k * 6, none⟩ (.string x.name)).setCell ⟨g, k * 6 + 1, none⟩ (.int .i64 x.str)).setCell ⟨g, k * 6 + 2, none⟩ (.int .i64 x.mov)).setCell ⟨g, k * 6 + 3, none⟩ (.int .i64 x.stp)).setCell ⟨g, k * 6 + 4, none⟩ (.bool x.zone)).setCell ⟨g, k * 6 + 5, none⟩ (.int .i64 x.view)) g n (l.take (k + 1))
      (set6 ys k (.string x.name) (.int .i64 x.str) (.int .i64 x.mov) (.int .i64 x.stp) (.bool x.zone) (.int .i64 x.view)) := by
  have hlen : ys.length = n * 6 := h.row.1
  refine ⟨stored6 h.row k _ _ _ _ _ _, fun j y hy => ?_⟩
  rw [List.getElem?_take] at hy
  split at hy
  · rename_i hj
    rcases Nat.lt_or_ge j k with h1 | h1
    · exact kndIn_old (h.here j y (by rw [List.getElem?_take, if_pos h1]; exact hy)) h1
    · obtain rfl : j = k := by omega
      rw [hx] at hy
      obtain rfl := Option.some.inj hy
      exact kndIn_new hlen hk
  · cases hy

set_option maxRecDepth 100000 in
set_option maxHeartbeats 1000000 in
theorem toTerrainS_any (A : Option Addr) (n c : Nat) (l : List Ter) (w : World) (h : RdT w A n l) (hn : n ≤ 1048576) (hcb : ∀ x ∈ l, x.cost.length ≤ 1048576) :
    Calls Tryz.prog 37 #[.slice A n c] w fun e w' => ∃ (cs : List (Option Addr × Nat)) (ys : List Value), e = .returned (.slice (some ⟨w.heap.size, 0, none⟩) n n) ∧ cs.length = n ∧ OwnT w' w.heap.size n l cs ys ∧ Kp w w' := by
  have HN := Lib.hid h.1
  have HA := Lib.hid h.2
  have HB := Lib.hid hcb
  have hmk := fun w => mkTers n hn w
  have own0 : (w.alloc (.cells (madeCells (tv ByteArray.empty none 0 0 0 0 false).cells (n * 5)) 65)).ownsRow w.heap.size 65 5 (.slice (some ⟨w.heap.size, 0, none⟩) n n) n (madeCells (tv ByteArray.empty none 0 0 0 0 false).cells (n * 5)).toList :=
    World.ownsRow_lit w _ n (Nat.le_refl _) (by simp only [maxLen]; omega) (by rw [size_madeCells])
  clear h hcb
  go_enter Tryz.func37, Tryz.ntmps37
  go_wp2_with fail
  go_loopw [4] (fun i wr => ∃ (k : Nat) (cs : List (Option Addr × Nat)) (ys : List Value), k ≤ n ∧ i = .int .i64 k ∧ Hid (cs.length = k) ∧ Hid (OwnT wr w.heap.size n l cs ys) ∧ Kp w wr ∧ w.heap.size < wr.heap.size) (fun i _ => n - (intOf i).toNat)
  case atStart => exact ⟨0, [], _, by omega, rfl, Lib.hid rfl, Lib.hid ⟨own0, fun j x c hx hc => by simp at hc, fun j x c hx hc => by simp at hc, fun i j c d _ hc => by simp at hc⟩, (Kp.refl _).alloc _, by simp⟩
  case round =>
    clear own0 hmk
    obtain ⟨k, cs, ys, hk, rfl, HC, HO, kr, hz⟩ := hrel
    by_cases hlt : k < n
    · have hlt' : (k : Int) < n := by omega
      obtain ⟨g, off, rfl, hc⟩ := HA.out (by omega)
      obtain ⟨x, hx⟩ : ∃ x, l[k]? = some x := ⟨l[k]'(by have := HN.out; omega), List.getElem?_eq_getElem _⟩
      obtain ⟨Ac, cc, ⟨a0, a1, a2, a3, a4⟩, ra⟩ := (hc k x hx).keep kr
      have hnc := HB.out x (List.mem_of_getElem? hx)
      have HX := Lib.hid hx
      obtain ⟨nm, cl, sh, hg, bl⟩ := x
      simp only at a0 a1 a2 a3 a4 ra hnc
      have HE := Lib.hid (fun (w1 : World) (A : Option Addr) (c : Nat) (k1 : Kp wr w1) (ho : OwnI w1 (wr.heap.size + 1) (.slice A cl.length c) cl) => OwnT.step (x := ⟨nm, cl, sh, hg, bl⟩) HO.out HC.out HX.out hlt k1 hz ho)
      simp only at HE
      have RA := Lib.hid ra
      generalize cl.length = nc at a1 RA hnc HE
      have HR := Lib.hid HO.out.row
      clear hc hx ra
      go_wp2_with fail
      refine (toTerrain_any _ _ _ _ _ _ _ cl _ RA.out hnc).mono ?_
      rintro e1 w1 ⟨A1, c1, rfl, o1, k1⟩
      have HR1 := ownsRow_keep HR.out k1
      obtain ⟨⟨u0, b0⟩, f0⟩ := liveN HR1 (j := k * 5) (by omega)
      obtain ⟨⟨u1, b1⟩, f1⟩ := liveN HR1 (j := k * 5 + 1) (by omega)
      obtain ⟨⟨u2, b2⟩, f2⟩ := liveN HR1 (j := k * 5 + 2) (by omega)
      obtain ⟨⟨u3, b3⟩, f3⟩ := liveN HR1 (j := k * 5 + 3) (by omega)
      obtain ⟨⟨u4, b4⟩, f4⟩ := liveN HR1 (j := k * 5 + 4) (by omega)
      have HT := Lib.hid (HE.out w1 A1 c1 k1 o1)
      have K1 : Kp w w1 := kr.trans k1
      have hz1 : w.heap.size < w1.heap.size := by have := k1.size; omega
      have HC2 : Hid ((cs ++ [(A1, c1)]).length = k + 1) := Lib.hid (by have := HC.out; simp; omega)
      clear HR1 HE o1 k1 a0 a1 a2 a3 a4 RA HO HR
      go_wp2_with fail
      go_roundw
      case rel => exact ⟨k + 1, _, _, by omega, by go_num, HC2, HT, ((((K1.setCell (by simp) _).setCell (by simp) _).setCell (by simp) _).setCell (by simp) _).setCell (by simp) _, by simpa using hz1⟩
      case measure => simp [intOf]; omega
    · obtain rfl : k = n := by omega
      go_wp2_with fail
      go_ret
      exact ⟨cs, ys, rfl, HC.out, HO.out, kr⟩

set_option maxRecDepth 100000 in
set_option maxHeartbeats 1000000 in
theorem toKindS_any (A : Option Addr) (n c : Nat) (l : List Knd) (w : World) (h : RdK w A n l) (hn : n ≤ 1048576) :
    Calls Tryz.prog 38 #[.slice A n c] w fun e w' => ∃ (ys : List Value), e = .returned (.slice (some ⟨w.heap.size, 0, none⟩) n n) ∧ OwnK w' w.heap.size n l ys ∧ Kp w w' := by
  have HN := Lib.hid h.1
  have HA := Lib.hid h.2
  have hmk := fun w => mkKnds n hn w
  have own0 : (w.alloc (.cells (madeCells (kv ByteArray.empty 0 0 0 false 0).cells (n * 6)) 76)).ownsRow w.heap.size 76 6 (.slice (some ⟨w.heap.size, 0, none⟩) n n) n (madeCells (kv ByteArray.empty 0 0 0 false 0).cells (n * 6)).toList :=
    World.ownsRow_lit w _ n (Nat.le_refl _) (by simp only [maxLen]; omega) (by rw [size_madeCells])
  clear h
  go_enter Tryz.func38, Tryz.ntmps38
  go_wp2_with fail
  go_loopw [4] (fun i wr => ∃ (k : Nat) (ys : List Value), k ≤ n ∧ i = .int .i64 k ∧ Hid (OwnK wr w.heap.size n (l.take k) ys) ∧ Kp w wr ∧ w.heap.size < wr.heap.size) (fun i _ => n - (intOf i).toNat)
  case atStart => exact ⟨0, _, by omega, rfl, Lib.hid ⟨own0, fun j x hx => by simp at hx⟩, (Kp.refl _).alloc _, by simp⟩
  case round =>
    clear own0 hmk
    obtain ⟨k, ys, hk, rfl, HO, kr, hz⟩ := hrel
    by_cases hlt : k < n
    · have hlt' : (k : Int) < n := by omega
      obtain ⟨g, off, rfl, hc⟩ := HA.out (by omega)
      obtain ⟨x, hx⟩ : ∃ x, l[k]? = some x := ⟨l[k]'(by have := HN.out; omega), List.getElem?_eq_getElem _⟩
      obtain ⟨a0, a1, a2, a3, a4, a5⟩ := (hc k x hx).keep kr
      have HX := Lib.hid hx
      obtain ⟨nm, ks, km, kt, kz, kw⟩ := x
      simp only at a0 a1 a2 a3 a4 a5
      clear hc hx
      go_wp2_with fail
      refine (toKind_any _ _ _ _ _ _ _).mono ?_
      rintro e1 w1 ⟨rfl, k1⟩
      have HO1 := Lib.hid (HO.out.keep k1)
      have HR1 := HO1.out.row
      obtain ⟨⟨u0, b0⟩, f0⟩ := liveN HR1 (j := k * 6) (by omega)
      obtain ⟨⟨u1, b1⟩, f1⟩ := liveN HR1 (j := k * 6 + 1) (by omega)
      obtain ⟨⟨u2, b2⟩, f2⟩ := liveN HR1 (j := k * 6 + 2) (by omega)
      obtain ⟨⟨u3, b3⟩, f3⟩ := liveN HR1 (j := k * 6 + 3) (by omega)
      obtain ⟨⟨u4, b4⟩, f4⟩ := liveN HR1 (j := k * 6 + 4) (by omega)
      obtain ⟨⟨u5, b5⟩, f5⟩ := liveN HR1 (j := k * 6 + 5) (by omega)
      have HT := Lib.hid (OwnK.step HO1.out HX.out hlt)
      simp only at HT
      have K1 : Kp w w1 := kr.trans k1
      have hz1 : w.heap.size < w1.heap.size := by have := k1.size; omega
      clear HR1 k1 a0 a1 a2 a3 a4 a5 HO HO1
      go_wp2_with fail
      go_roundw
      case rel => exact ⟨k + 1, _, by omega, by go_num, HT, (((((K1.setCell (by simp) _).setCell (by simp) _).setCell (by simp) _).setCell (by simp) _).setCell (by simp) _).setCell (by simp) _, by simpa using hz1⟩
      case measure => simp [intOf]; omega
    · obtain rfl : k = n := by omega
      go_wp2_with fail
      go_ret
      have e : l.take k = l := List.take_of_length_le (by have := HN.out; omega)
      have HO2 := HO.out
      rw [e] at HO2
      exact ⟨ys, rfl, HO2, kr⟩

end Go.Proofs.YtmolpkjdjkhnpaaGreatDoor

/-
  The program's test of rules returns what a plain function on lists says, and changes nothing that was there. The ranges hold what the program's text lays.
-/
namespace Go.Proofs.YtmolpkjdjkhnpaaGreatDoor
open Go.RowKit

/-- What rules are in memory: two slices that read as lists, and bounds. -/
structure RulAt (w : World) (At Ak : Option Addr) (nt nk : Nat) (l : List Ter) (m : List Knd) : Prop where
  rt : RdT w At nt l
  rk : RdK w Ak nk m
  bt : nt ≤ 1048576
  bk : nk ≤ 1048576
  bc : ∀ x ∈ l, x.cost.length ≤ 1048576 ∧ x.name.size ≤ 1048576
  bn : ∀ x ∈ m, x.name.size ≤ 1048576
theorem RulAt.keep {w w' : World} {At Ak : Option Addr} {nt nk : Nat} {l : List Ter} {m : List Knd} (h : RulAt w At Ak nt nk l m) (k : Kp w w') : RulAt w' At Ak nt nk l m :=
  ⟨h.rt.keep k, h.rk.keep k, h.bt, h.bk, h.bc, h.bn⟩

set_option maxRecDepth 100000 in
set_option maxHeartbeats 2000000 in
theorem isRules_no1 (At Ak : Option Addr) (nt nk ct ck : Nat) (l : List Ter) (m : List Knd) (a b c d e : Int) (w : World) (hs : Spans w) (h : RulAt w At Ak nt nk l m) (h1 : spB 1 6 nt = false) :
    Calls Tryz.prog 69 #[rv (.slice At nt ct) (.slice Ak nk ck) a b c d e] w fun e' w' => e' = .returned (.bool false) ∧ Kp w w' := by
  have s0 : (w.alloc (.cells #[.slice At nt ct, .slice Ak nk ck, .int .i64 a, .int .i64 b, .int .i64 c, .int .i64 d, .int .i64 e] 35)).cell? ⟨w.heap.size, 0, none⟩ = some (.slice At nt ct) ∧ (w.alloc (.cells #[.slice At nt ct, .slice Ak nk ck, .int .i64 a, .int .i64 b, .int .i64 c, .int .i64 d, .int .i64 e] 35)).cell? ⟨w.heap.size, 1, none⟩ = some (.slice Ak nk ck) ∧ (w.alloc (.cells #[.slice At nt ct, .slice Ak nk ck, .int .i64 a, .int .i64 b, .int .i64 c, .int .i64 d, .int .i64 e] 35)).cell? ⟨w.heap.size, 2, none⟩ = some (.int .i64 a) ∧ (w.alloc (.cells #[.slice At nt ct, .slice Ak nk ck, .int .i64 a, .int .i64 b, .int .i64 c, .int .i64 d, .int .i64 e] 35)).cell? ⟨w.heap.size, 3, none⟩ = some (.int .i64 b) ∧ (w.alloc (.cells #[.slice At nt ct, .slice Ak nk ck, .int .i64 a, .int .i64 b, .int .i64 c, .int .i64 d, .int .i64 e] 35)).cell? ⟨w.heap.size, 4, none⟩ = some (.int .i64 c) ∧ (w.alloc (.cells #[.slice At nt ct, .slice Ak nk ck, .int .i64 a, .int .i64 b, .int .i64 c, .int .i64 d, .int .i64 e] 35)).cell? ⟨w.heap.size, 5, none⟩ = some (.int .i64 d) ∧ (w.alloc (.cells #[.slice At nt ct, .slice Ak nk ck, .int .i64 a, .int .i64 b, .int .i64 c, .int .i64 d, .int .i64 e] 35)).cell? ⟨w.heap.size, 6, none⟩ = some (.int .i64 e) ∧ (w.alloc (.cells #[.slice At nt ct, .slice Ak nk ck, .int .i64 a, .int .i64 b, .int .i64 c, .int .i64 d, .int .i64 e] 35)).cell? ⟨0, 0, none⟩ = some (.int .i64 1) ∧ (w.alloc (.cells #[.slice At nt ct, .slice Ak nk ck, .int .i64 a, .int .i64 b, .int .i64 c, .int .i64 d, .int .i64 e] 35)).cell? ⟨0, 1, none⟩ = some (.int .i64 6) ∧ (w.alloc (.cells #[.slice At nt ct, .slice Ak nk ck, .int .i64 a, .int .i64 b, .int .i64 c, .int .i64 d, .int .i64 e] 35)).cell? ⟨1, 0, none⟩ = some (.int .i64 1) ∧ (w.alloc (.cells #[.slice At nt ct, .slice Ak nk ck, .int .i64 a, .int .i64 b, .int .i64 c, .int .i64 d, .int .i64 e] 35)).cell? ⟨1, 1, none⟩ = some (.int .i64 4) ∧ Kp w (w.alloc (.cells #[.slice At nt ct, .slice Ak nk ck, .int .i64 a, .int .i64 b, .int .i64 c, .int .i64 d, .int .i64 e] 35)) :=
    ⟨by simp [go_sem], by simp [go_sem], by simp [go_sem], by simp [go_sem], by simp [go_sem], by simp [go_sem], by simp [go_sem], ((Kp.refl w).alloc _).cell hs.terrains.1, ((Kp.refl w).alloc _).cell hs.terrains.2, ((Kp.refl w).alloc _).cell hs.kinds.1, ((Kp.refl w).alloc _).cell hs.kinds.2, (Kp.refl w).alloc _⟩
  have HS := Lib.hid hs
  have HL := Lib.hid h
  have hb1 := h.bt
  have hb2 := h.bk
  clear hs h
  go_enter Tryz.func69, Tryz.ntmps69
  go_wp2_with fail
  generalize w.alloc (.cells #[.slice At nt ct, .slice Ak nk ck, .int .i64 a, .int .i64 b, .int .i64 c, .int .i64 d, .int .i64 e] 35) = W0 at *
  refine (has_any _ _ _ _).mono ?_
  rintro e1 w1 ⟨rfl, k1⟩
  have s1 : w1.cell? ⟨w.heap.size, 0, none⟩ = some (.slice At nt ct) ∧ w1.cell? ⟨w.heap.size, 1, none⟩ = some (.slice Ak nk ck) ∧ w1.cell? ⟨w.heap.size, 2, none⟩ = some (.int .i64 a) ∧ w1.cell? ⟨w.heap.size, 3, none⟩ = some (.int .i64 b) ∧ w1.cell? ⟨w.heap.size, 4, none⟩ = some (.int .i64 c) ∧ w1.cell? ⟨w.heap.size, 5, none⟩ = some (.int .i64 d) ∧ w1.cell? ⟨w.heap.size, 6, none⟩ = some (.int .i64 e) ∧ w1.cell? ⟨0, 0, none⟩ = some (.int .i64 1) ∧ w1.cell? ⟨0, 1, none⟩ = some (.int .i64 6) ∧ w1.cell? ⟨1, 0, none⟩ = some (.int .i64 1) ∧ w1.cell? ⟨1, 1, none⟩ = some (.int .i64 4) ∧ Kp w w1 := ⟨k1.cell s0.1, k1.cell s0.2.1, k1.cell s0.2.2.1, k1.cell s0.2.2.2.1, k1.cell s0.2.2.2.2.1, k1.cell s0.2.2.2.2.2.1, k1.cell s0.2.2.2.2.2.2.1, k1.cell s0.2.2.2.2.2.2.2.1, k1.cell s0.2.2.2.2.2.2.2.2.1, k1.cell s0.2.2.2.2.2.2.2.2.2.1, k1.cell s0.2.2.2.2.2.2.2.2.2.2.1, s0.2.2.2.2.2.2.2.2.2.2.2.trans k1⟩
  have K1 : Kp W0 w1 := k1
  clear k1
  go_wp2_with fail
  go_ret
  exact ⟨rfl, s1.2.2.2.2.2.2.2.2.2.2.2⟩

set_option maxRecDepth 100000 in
set_option maxHeartbeats 2000000 in
theorem isRules_no2 (At Ak : Option Addr) (nt nk ct ck : Nat) (l : List Ter) (m : List Knd) (a b c d e : Int) (w : World) (hs : Spans w) (h : RulAt w At Ak nt nk l m) (h1 : spB 1 6 nt = true) (h2 : spB 1 4 nk = false) :
    Calls Tryz.prog 69 #[rv (.slice At nt ct) (.slice Ak nk ck) a b c d e] w fun e' w' => e' = .returned (.bool false) ∧ Kp w w' := by
  have s0 : (w.alloc (.cells #[.slice At nt ct, .slice Ak nk ck, .int .i64 a, .int .i64 b, .int .i64 c, .int .i64 d, .int .i64 e] 35)).cell? ⟨w.heap.size, 0, none⟩ = some (.slice At nt ct) ∧ (w.alloc (.cells #[.slice At nt ct, .slice Ak nk ck, .int .i64 a, .int .i64 b, .int .i64 c, .int .i64 d, .int .i64 e] 35)).cell? ⟨w.heap.size, 1, none⟩ = some (.slice Ak nk ck) ∧ (w.alloc (.cells #[.slice At nt ct, .slice Ak nk ck, .int .i64 a, .int .i64 b, .int .i64 c, .int .i64 d, .int .i64 e] 35)).cell? ⟨w.heap.size, 2, none⟩ = some (.int .i64 a) ∧ (w.alloc (.cells #[.slice At nt ct, .slice Ak nk ck, .int .i64 a, .int .i64 b, .int .i64 c, .int .i64 d, .int .i64 e] 35)).cell? ⟨w.heap.size, 3, none⟩ = some (.int .i64 b) ∧ (w.alloc (.cells #[.slice At nt ct, .slice Ak nk ck, .int .i64 a, .int .i64 b, .int .i64 c, .int .i64 d, .int .i64 e] 35)).cell? ⟨w.heap.size, 4, none⟩ = some (.int .i64 c) ∧ (w.alloc (.cells #[.slice At nt ct, .slice Ak nk ck, .int .i64 a, .int .i64 b, .int .i64 c, .int .i64 d, .int .i64 e] 35)).cell? ⟨w.heap.size, 5, none⟩ = some (.int .i64 d) ∧ (w.alloc (.cells #[.slice At nt ct, .slice Ak nk ck, .int .i64 a, .int .i64 b, .int .i64 c, .int .i64 d, .int .i64 e] 35)).cell? ⟨w.heap.size, 6, none⟩ = some (.int .i64 e) ∧ (w.alloc (.cells #[.slice At nt ct, .slice Ak nk ck, .int .i64 a, .int .i64 b, .int .i64 c, .int .i64 d, .int .i64 e] 35)).cell? ⟨0, 0, none⟩ = some (.int .i64 1) ∧ (w.alloc (.cells #[.slice At nt ct, .slice Ak nk ck, .int .i64 a, .int .i64 b, .int .i64 c, .int .i64 d, .int .i64 e] 35)).cell? ⟨0, 1, none⟩ = some (.int .i64 6) ∧ (w.alloc (.cells #[.slice At nt ct, .slice Ak nk ck, .int .i64 a, .int .i64 b, .int .i64 c, .int .i64 d, .int .i64 e] 35)).cell? ⟨1, 0, none⟩ = some (.int .i64 1) ∧ (w.alloc (.cells #[.slice At nt ct, .slice Ak nk ck, .int .i64 a, .int .i64 b, .int .i64 c, .int .i64 d, .int .i64 e] 35)).cell? ⟨1, 1, none⟩ = some (.int .i64 4) ∧ Kp w (w.alloc (.cells #[.slice At nt ct, .slice Ak nk ck, .int .i64 a, .int .i64 b, .int .i64 c, .int .i64 d, .int .i64 e] 35)) :=
    ⟨by simp [go_sem], by simp [go_sem], by simp [go_sem], by simp [go_sem], by simp [go_sem], by simp [go_sem], by simp [go_sem], ((Kp.refl w).alloc _).cell hs.terrains.1, ((Kp.refl w).alloc _).cell hs.terrains.2, ((Kp.refl w).alloc _).cell hs.kinds.1, ((Kp.refl w).alloc _).cell hs.kinds.2, (Kp.refl w).alloc _⟩
  have HS := Lib.hid hs
  have HL := Lib.hid h
  have hb1 := h.bt
  have hb2 := h.bk
  clear hs h
  go_enter Tryz.func69, Tryz.ntmps69
  go_wp2_with fail
  generalize w.alloc (.cells #[.slice At nt ct, .slice Ak nk ck, .int .i64 a, .int .i64 b, .int .i64 c, .int .i64 d, .int .i64 e] 35) = W0 at *
  refine (has_any _ _ _ _).mono ?_
  rintro e1 w1 ⟨rfl, k1⟩
  have s1 : w1.cell? ⟨w.heap.size, 0, none⟩ = some (.slice At nt ct) ∧ w1.cell? ⟨w.heap.size, 1, none⟩ = some (.slice Ak nk ck) ∧ w1.cell? ⟨w.heap.size, 2, none⟩ = some (.int .i64 a) ∧ w1.cell? ⟨w.heap.size, 3, none⟩ = some (.int .i64 b) ∧ w1.cell? ⟨w.heap.size, 4, none⟩ = some (.int .i64 c) ∧ w1.cell? ⟨w.heap.size, 5, none⟩ = some (.int .i64 d) ∧ w1.cell? ⟨w.heap.size, 6, none⟩ = some (.int .i64 e) ∧ w1.cell? ⟨0, 0, none⟩ = some (.int .i64 1) ∧ w1.cell? ⟨0, 1, none⟩ = some (.int .i64 6) ∧ w1.cell? ⟨1, 0, none⟩ = some (.int .i64 1) ∧ w1.cell? ⟨1, 1, none⟩ = some (.int .i64 4) ∧ Kp w w1 := ⟨k1.cell s0.1, k1.cell s0.2.1, k1.cell s0.2.2.1, k1.cell s0.2.2.2.1, k1.cell s0.2.2.2.2.1, k1.cell s0.2.2.2.2.2.1, k1.cell s0.2.2.2.2.2.2.1, k1.cell s0.2.2.2.2.2.2.2.1, k1.cell s0.2.2.2.2.2.2.2.2.1, k1.cell s0.2.2.2.2.2.2.2.2.2.1, k1.cell s0.2.2.2.2.2.2.2.2.2.2.1, s0.2.2.2.2.2.2.2.2.2.2.2.trans k1⟩
  have K1 : Kp W0 w1 := k1
  clear k1
  go_wp2_with fail
  refine (has_any _ _ _ _).mono ?_
  rintro e2 w2 ⟨rfl, k2⟩
  have s2 : w2.cell? ⟨w.heap.size, 0, none⟩ = some (.slice At nt ct) ∧ w2.cell? ⟨w.heap.size, 1, none⟩ = some (.slice Ak nk ck) ∧ w2.cell? ⟨w.heap.size, 2, none⟩ = some (.int .i64 a) ∧ w2.cell? ⟨w.heap.size, 3, none⟩ = some (.int .i64 b) ∧ w2.cell? ⟨w.heap.size, 4, none⟩ = some (.int .i64 c) ∧ w2.cell? ⟨w.heap.size, 5, none⟩ = some (.int .i64 d) ∧ w2.cell? ⟨w.heap.size, 6, none⟩ = some (.int .i64 e) ∧ w2.cell? ⟨0, 0, none⟩ = some (.int .i64 1) ∧ w2.cell? ⟨0, 1, none⟩ = some (.int .i64 6) ∧ w2.cell? ⟨1, 0, none⟩ = some (.int .i64 1) ∧ w2.cell? ⟨1, 1, none⟩ = some (.int .i64 4) ∧ Kp w w2 := ⟨k2.cell s1.1, k2.cell s1.2.1, k2.cell s1.2.2.1, k2.cell s1.2.2.2.1, k2.cell s1.2.2.2.2.1, k2.cell s1.2.2.2.2.2.1, k2.cell s1.2.2.2.2.2.2.1, k2.cell s1.2.2.2.2.2.2.2.1, k2.cell s1.2.2.2.2.2.2.2.2.1, k2.cell s1.2.2.2.2.2.2.2.2.2.1, k2.cell s1.2.2.2.2.2.2.2.2.2.2.1, s1.2.2.2.2.2.2.2.2.2.2.2.trans k2⟩
  have K2 : Kp W0 w2 := K1.trans k2
  clear s1 K1 k2
  go_wp2_with fail
  go_ret
  exact ⟨rfl, s2.2.2.2.2.2.2.2.2.2.2.2⟩

set_option maxRecDepth 100000 in
set_option maxHeartbeats 2000000 in
theorem isRules_no3 (At Ak : Option Addr) (nt nk ct ck : Nat) (l : List Ter) (m : List Knd) (a b c d e : Int) (w : World) (hs : Spans w) (h : RulAt w At Ak nt nk l m) (h1 : spB 1 6 nt = true) (h2 : spB 1 4 nk = true) (h3 : limB a b c d e = false) :
    Calls Tryz.prog 69 #[rv (.slice At nt ct) (.slice Ak nk ck) a b c d e] w fun e' w' => e' = .returned (.bool false) ∧ Kp w w' := by
  have s0 : (w.alloc (.cells #[.slice At nt ct, .slice Ak nk ck, .int .i64 a, .int .i64 b, .int .i64 c, .int .i64 d, .int .i64 e] 35)).cell? ⟨w.heap.size, 0, none⟩ = some (.slice At nt ct) ∧ (w.alloc (.cells #[.slice At nt ct, .slice Ak nk ck, .int .i64 a, .int .i64 b, .int .i64 c, .int .i64 d, .int .i64 e] 35)).cell? ⟨w.heap.size, 1, none⟩ = some (.slice Ak nk ck) ∧ (w.alloc (.cells #[.slice At nt ct, .slice Ak nk ck, .int .i64 a, .int .i64 b, .int .i64 c, .int .i64 d, .int .i64 e] 35)).cell? ⟨w.heap.size, 2, none⟩ = some (.int .i64 a) ∧ (w.alloc (.cells #[.slice At nt ct, .slice Ak nk ck, .int .i64 a, .int .i64 b, .int .i64 c, .int .i64 d, .int .i64 e] 35)).cell? ⟨w.heap.size, 3, none⟩ = some (.int .i64 b) ∧ (w.alloc (.cells #[.slice At nt ct, .slice Ak nk ck, .int .i64 a, .int .i64 b, .int .i64 c, .int .i64 d, .int .i64 e] 35)).cell? ⟨w.heap.size, 4, none⟩ = some (.int .i64 c) ∧ (w.alloc (.cells #[.slice At nt ct, .slice Ak nk ck, .int .i64 a, .int .i64 b, .int .i64 c, .int .i64 d, .int .i64 e] 35)).cell? ⟨w.heap.size, 5, none⟩ = some (.int .i64 d) ∧ (w.alloc (.cells #[.slice At nt ct, .slice Ak nk ck, .int .i64 a, .int .i64 b, .int .i64 c, .int .i64 d, .int .i64 e] 35)).cell? ⟨w.heap.size, 6, none⟩ = some (.int .i64 e) ∧ (w.alloc (.cells #[.slice At nt ct, .slice Ak nk ck, .int .i64 a, .int .i64 b, .int .i64 c, .int .i64 d, .int .i64 e] 35)).cell? ⟨0, 0, none⟩ = some (.int .i64 1) ∧ (w.alloc (.cells #[.slice At nt ct, .slice Ak nk ck, .int .i64 a, .int .i64 b, .int .i64 c, .int .i64 d, .int .i64 e] 35)).cell? ⟨0, 1, none⟩ = some (.int .i64 6) ∧ (w.alloc (.cells #[.slice At nt ct, .slice Ak nk ck, .int .i64 a, .int .i64 b, .int .i64 c, .int .i64 d, .int .i64 e] 35)).cell? ⟨1, 0, none⟩ = some (.int .i64 1) ∧ (w.alloc (.cells #[.slice At nt ct, .slice Ak nk ck, .int .i64 a, .int .i64 b, .int .i64 c, .int .i64 d, .int .i64 e] 35)).cell? ⟨1, 1, none⟩ = some (.int .i64 4) ∧ Kp w (w.alloc (.cells #[.slice At nt ct, .slice Ak nk ck, .int .i64 a, .int .i64 b, .int .i64 c, .int .i64 d, .int .i64 e] 35)) :=
    ⟨by simp [go_sem], by simp [go_sem], by simp [go_sem], by simp [go_sem], by simp [go_sem], by simp [go_sem], by simp [go_sem], ((Kp.refl w).alloc _).cell hs.terrains.1, ((Kp.refl w).alloc _).cell hs.terrains.2, ((Kp.refl w).alloc _).cell hs.kinds.1, ((Kp.refl w).alloc _).cell hs.kinds.2, (Kp.refl w).alloc _⟩
  have HS := Lib.hid hs
  have HL := Lib.hid h
  have hb1 := h.bt
  have hb2 := h.bk
  clear hs h
  go_enter Tryz.func69, Tryz.ntmps69
  go_wp2_with fail
  generalize w.alloc (.cells #[.slice At nt ct, .slice Ak nk ck, .int .i64 a, .int .i64 b, .int .i64 c, .int .i64 d, .int .i64 e] 35) = W0 at *
  refine (has_any _ _ _ _).mono ?_
  rintro e1 w1 ⟨rfl, k1⟩
  have s1 : w1.cell? ⟨w.heap.size, 0, none⟩ = some (.slice At nt ct) ∧ w1.cell? ⟨w.heap.size, 1, none⟩ = some (.slice Ak nk ck) ∧ w1.cell? ⟨w.heap.size, 2, none⟩ = some (.int .i64 a) ∧ w1.cell? ⟨w.heap.size, 3, none⟩ = some (.int .i64 b) ∧ w1.cell? ⟨w.heap.size, 4, none⟩ = some (.int .i64 c) ∧ w1.cell? ⟨w.heap.size, 5, none⟩ = some (.int .i64 d) ∧ w1.cell? ⟨w.heap.size, 6, none⟩ = some (.int .i64 e) ∧ w1.cell? ⟨0, 0, none⟩ = some (.int .i64 1) ∧ w1.cell? ⟨0, 1, none⟩ = some (.int .i64 6) ∧ w1.cell? ⟨1, 0, none⟩ = some (.int .i64 1) ∧ w1.cell? ⟨1, 1, none⟩ = some (.int .i64 4) ∧ Kp w w1 := ⟨k1.cell s0.1, k1.cell s0.2.1, k1.cell s0.2.2.1, k1.cell s0.2.2.2.1, k1.cell s0.2.2.2.2.1, k1.cell s0.2.2.2.2.2.1, k1.cell s0.2.2.2.2.2.2.1, k1.cell s0.2.2.2.2.2.2.2.1, k1.cell s0.2.2.2.2.2.2.2.2.1, k1.cell s0.2.2.2.2.2.2.2.2.2.1, k1.cell s0.2.2.2.2.2.2.2.2.2.2.1, s0.2.2.2.2.2.2.2.2.2.2.2.trans k1⟩
  have K1 : Kp W0 w1 := k1
  clear k1
  go_wp2_with fail
  refine (has_any _ _ _ _).mono ?_
  rintro e2 w2 ⟨rfl, k2⟩
  have s2 : w2.cell? ⟨w.heap.size, 0, none⟩ = some (.slice At nt ct) ∧ w2.cell? ⟨w.heap.size, 1, none⟩ = some (.slice Ak nk ck) ∧ w2.cell? ⟨w.heap.size, 2, none⟩ = some (.int .i64 a) ∧ w2.cell? ⟨w.heap.size, 3, none⟩ = some (.int .i64 b) ∧ w2.cell? ⟨w.heap.size, 4, none⟩ = some (.int .i64 c) ∧ w2.cell? ⟨w.heap.size, 5, none⟩ = some (.int .i64 d) ∧ w2.cell? ⟨w.heap.size, 6, none⟩ = some (.int .i64 e) ∧ w2.cell? ⟨0, 0, none⟩ = some (.int .i64 1) ∧ w2.cell? ⟨0, 1, none⟩ = some (.int .i64 6) ∧ w2.cell? ⟨1, 0, none⟩ = some (.int .i64 1) ∧ w2.cell? ⟨1, 1, none⟩ = some (.int .i64 4) ∧ Kp w w2 := ⟨k2.cell s1.1, k2.cell s1.2.1, k2.cell s1.2.2.1, k2.cell s1.2.2.2.1, k2.cell s1.2.2.2.2.1, k2.cell s1.2.2.2.2.2.1, k2.cell s1.2.2.2.2.2.2.1, k2.cell s1.2.2.2.2.2.2.2.1, k2.cell s1.2.2.2.2.2.2.2.2.1, k2.cell s1.2.2.2.2.2.2.2.2.2.1, k2.cell s1.2.2.2.2.2.2.2.2.2.2.1, s1.2.2.2.2.2.2.2.2.2.2.2.trans k2⟩
  have K2 : Kp W0 w2 := K1.trans k2
  clear s1 K1 k2
  go_wp2_with fail
  refine (hasLimits_any _ _ _ _ _ _ _ _ (HS.out.keep s2.2.2.2.2.2.2.2.2.2.2.2)).mono ?_
  rintro e3 w3 ⟨rfl, k3⟩
  have s3 : w3.cell? ⟨w.heap.size, 0, none⟩ = some (.slice At nt ct) ∧ w3.cell? ⟨w.heap.size, 1, none⟩ = some (.slice Ak nk ck) ∧ w3.cell? ⟨w.heap.size, 2, none⟩ = some (.int .i64 a) ∧ w3.cell? ⟨w.heap.size, 3, none⟩ = some (.int .i64 b) ∧ w3.cell? ⟨w.heap.size, 4, none⟩ = some (.int .i64 c) ∧ w3.cell? ⟨w.heap.size, 5, none⟩ = some (.int .i64 d) ∧ w3.cell? ⟨w.heap.size, 6, none⟩ = some (.int .i64 e) ∧ w3.cell? ⟨0, 0, none⟩ = some (.int .i64 1) ∧ w3.cell? ⟨0, 1, none⟩ = some (.int .i64 6) ∧ w3.cell? ⟨1, 0, none⟩ = some (.int .i64 1) ∧ w3.cell? ⟨1, 1, none⟩ = some (.int .i64 4) ∧ Kp w w3 := ⟨k3.cell s2.1, k3.cell s2.2.1, k3.cell s2.2.2.1, k3.cell s2.2.2.2.1, k3.cell s2.2.2.2.2.1, k3.cell s2.2.2.2.2.2.1, k3.cell s2.2.2.2.2.2.2.1, k3.cell s2.2.2.2.2.2.2.2.1, k3.cell s2.2.2.2.2.2.2.2.2.1, k3.cell s2.2.2.2.2.2.2.2.2.2.1, k3.cell s2.2.2.2.2.2.2.2.2.2.2.1, s2.2.2.2.2.2.2.2.2.2.2.2.trans k3⟩
  have K3 : Kp W0 w3 := K2.trans k3
  clear s2 K2 k3
  go_wp2_with fail
  go_ret
  exact ⟨rfl, s3.2.2.2.2.2.2.2.2.2.2.2⟩

set_option maxRecDepth 100000 in
set_option maxHeartbeats 4000000 in
theorem isRules_yes (At Ak : Option Addr) (nt nk ct ck : Nat) (l : List Ter) (m : List Knd) (a b c d e : Int) (w : World) (hs : Spans w) (h : RulAt w At Ak nt nk l m) (h1 : spB 1 6 nt = true) (h2 : spB 1 4 nk = true) (h3 : limB a b c d e = true) :
    Calls Tryz.prog 69 #[rv (.slice At nt ct) (.slice Ak nk ck) a b c d e] w fun e' w' => e' = .returned (.bool (l.all (numT nk) && (m.all numK && (namesOk (tNames l) && namesOk (kNames m))))) ∧ Kp w w' := by
  have n6 : nt ≤ 1000 ∧ nk ≤ 1000 := by
    simp only [spB, Bool.and_eq_true, decide_eq_true_eq] at h1 h2
    omega
  obtain ⟨n6, n4⟩ := n6
  have s0 : (w.alloc (.cells #[.slice At nt ct, .slice Ak nk ck, .int .i64 a, .int .i64 b, .int .i64 c, .int .i64 d, .int .i64 e] 35)).cell? ⟨w.heap.size, 0, none⟩ = some (.slice At nt ct) ∧ (w.alloc (.cells #[.slice At nt ct, .slice Ak nk ck, .int .i64 a, .int .i64 b, .int .i64 c, .int .i64 d, .int .i64 e] 35)).cell? ⟨w.heap.size, 1, none⟩ = some (.slice Ak nk ck) ∧ (w.alloc (.cells #[.slice At nt ct, .slice Ak nk ck, .int .i64 a, .int .i64 b, .int .i64 c, .int .i64 d, .int .i64 e] 35)).cell? ⟨w.heap.size, 2, none⟩ = some (.int .i64 a) ∧ (w.alloc (.cells #[.slice At nt ct, .slice Ak nk ck, .int .i64 a, .int .i64 b, .int .i64 c, .int .i64 d, .int .i64 e] 35)).cell? ⟨w.heap.size, 3, none⟩ = some (.int .i64 b) ∧ (w.alloc (.cells #[.slice At nt ct, .slice Ak nk ck, .int .i64 a, .int .i64 b, .int .i64 c, .int .i64 d, .int .i64 e] 35)).cell? ⟨w.heap.size, 4, none⟩ = some (.int .i64 c) ∧ (w.alloc (.cells #[.slice At nt ct, .slice Ak nk ck, .int .i64 a, .int .i64 b, .int .i64 c, .int .i64 d, .int .i64 e] 35)).cell? ⟨w.heap.size, 5, none⟩ = some (.int .i64 d) ∧ (w.alloc (.cells #[.slice At nt ct, .slice Ak nk ck, .int .i64 a, .int .i64 b, .int .i64 c, .int .i64 d, .int .i64 e] 35)).cell? ⟨w.heap.size, 6, none⟩ = some (.int .i64 e) ∧ (w.alloc (.cells #[.slice At nt ct, .slice Ak nk ck, .int .i64 a, .int .i64 b, .int .i64 c, .int .i64 d, .int .i64 e] 35)).cell? ⟨0, 0, none⟩ = some (.int .i64 1) ∧ (w.alloc (.cells #[.slice At nt ct, .slice Ak nk ck, .int .i64 a, .int .i64 b, .int .i64 c, .int .i64 d, .int .i64 e] 35)).cell? ⟨0, 1, none⟩ = some (.int .i64 6) ∧ (w.alloc (.cells #[.slice At nt ct, .slice Ak nk ck, .int .i64 a, .int .i64 b, .int .i64 c, .int .i64 d, .int .i64 e] 35)).cell? ⟨1, 0, none⟩ = some (.int .i64 1) ∧ (w.alloc (.cells #[.slice At nt ct, .slice Ak nk ck, .int .i64 a, .int .i64 b, .int .i64 c, .int .i64 d, .int .i64 e] 35)).cell? ⟨1, 1, none⟩ = some (.int .i64 4) ∧ Kp w (w.alloc (.cells #[.slice At nt ct, .slice Ak nk ck, .int .i64 a, .int .i64 b, .int .i64 c, .int .i64 d, .int .i64 e] 35)) :=
    ⟨by simp [go_sem], by simp [go_sem], by simp [go_sem], by simp [go_sem], by simp [go_sem], by simp [go_sem], by simp [go_sem], ((Kp.refl w).alloc _).cell hs.terrains.1, ((Kp.refl w).alloc _).cell hs.terrains.2, ((Kp.refl w).alloc _).cell hs.kinds.1, ((Kp.refl w).alloc _).cell hs.kinds.2, (Kp.refl w).alloc _⟩
  have HS := Lib.hid hs
  have HL := Lib.hid h
  have hb1 := h.bt
  have hb2 := h.bk
  clear hs h
  obtain ⟨R, hR⟩ : ∃ R, R = l.all (numT nk) := ⟨_, rfl⟩
  obtain ⟨Q, hQ⟩ : ∃ Q, Q = m.all numK := ⟨_, rfl⟩
  obtain ⟨B1, hB1⟩ : ∃ B, B = namesOk (tNames l) := ⟨_, rfl⟩
  obtain ⟨B2, hB2⟩ : ∃ B, B = namesOk (kNames m) := ⟨_, rfl⟩
  rw [← hR, ← hQ, ← hB1, ← hB2]
  have HR := Lib.hid hR
  have HQ := Lib.hid hQ
  have HB1 := Lib.hid hB1
  have HB2 := Lib.hid hB2
  have HNt := Lib.hid HL.out.rt.1
  have HNk := Lib.hid HL.out.rk.1
  have HAt := Lib.hid HL.out.rt.2
  have HAk := Lib.hid HL.out.rk.2
  clear hR hQ hB1 hB2
  go_enter Tryz.func69, Tryz.ntmps69
  go_wp2_with fail
  generalize w.alloc (.cells #[.slice At nt ct, .slice Ak nk ck, .int .i64 a, .int .i64 b, .int .i64 c, .int .i64 d, .int .i64 e] 35) = W0 at *
  refine (has_any _ _ _ _).mono ?_
  rintro e1 w1 ⟨rfl, k1⟩
  have s1 : w1.cell? ⟨w.heap.size, 0, none⟩ = some (.slice At nt ct) ∧ w1.cell? ⟨w.heap.size, 1, none⟩ = some (.slice Ak nk ck) ∧ w1.cell? ⟨w.heap.size, 2, none⟩ = some (.int .i64 a) ∧ w1.cell? ⟨w.heap.size, 3, none⟩ = some (.int .i64 b) ∧ w1.cell? ⟨w.heap.size, 4, none⟩ = some (.int .i64 c) ∧ w1.cell? ⟨w.heap.size, 5, none⟩ = some (.int .i64 d) ∧ w1.cell? ⟨w.heap.size, 6, none⟩ = some (.int .i64 e) ∧ w1.cell? ⟨0, 0, none⟩ = some (.int .i64 1) ∧ w1.cell? ⟨0, 1, none⟩ = some (.int .i64 6) ∧ w1.cell? ⟨1, 0, none⟩ = some (.int .i64 1) ∧ w1.cell? ⟨1, 1, none⟩ = some (.int .i64 4) ∧ Kp w w1 := ⟨k1.cell s0.1, k1.cell s0.2.1, k1.cell s0.2.2.1, k1.cell s0.2.2.2.1, k1.cell s0.2.2.2.2.1, k1.cell s0.2.2.2.2.2.1, k1.cell s0.2.2.2.2.2.2.1, k1.cell s0.2.2.2.2.2.2.2.1, k1.cell s0.2.2.2.2.2.2.2.2.1, k1.cell s0.2.2.2.2.2.2.2.2.2.1, k1.cell s0.2.2.2.2.2.2.2.2.2.2.1, s0.2.2.2.2.2.2.2.2.2.2.2.trans k1⟩
  have K1 : Kp W0 w1 := k1
  clear k1
  go_wp2_with fail
  refine (has_any _ _ _ _).mono ?_
  rintro e2 w2 ⟨rfl, k2⟩
  have s2 : w2.cell? ⟨w.heap.size, 0, none⟩ = some (.slice At nt ct) ∧ w2.cell? ⟨w.heap.size, 1, none⟩ = some (.slice Ak nk ck) ∧ w2.cell? ⟨w.heap.size, 2, none⟩ = some (.int .i64 a) ∧ w2.cell? ⟨w.heap.size, 3, none⟩ = some (.int .i64 b) ∧ w2.cell? ⟨w.heap.size, 4, none⟩ = some (.int .i64 c) ∧ w2.cell? ⟨w.heap.size, 5, none⟩ = some (.int .i64 d) ∧ w2.cell? ⟨w.heap.size, 6, none⟩ = some (.int .i64 e) ∧ w2.cell? ⟨0, 0, none⟩ = some (.int .i64 1) ∧ w2.cell? ⟨0, 1, none⟩ = some (.int .i64 6) ∧ w2.cell? ⟨1, 0, none⟩ = some (.int .i64 1) ∧ w2.cell? ⟨1, 1, none⟩ = some (.int .i64 4) ∧ Kp w w2 := ⟨k2.cell s1.1, k2.cell s1.2.1, k2.cell s1.2.2.1, k2.cell s1.2.2.2.1, k2.cell s1.2.2.2.2.1, k2.cell s1.2.2.2.2.2.1, k2.cell s1.2.2.2.2.2.2.1, k2.cell s1.2.2.2.2.2.2.2.1, k2.cell s1.2.2.2.2.2.2.2.2.1, k2.cell s1.2.2.2.2.2.2.2.2.2.1, k2.cell s1.2.2.2.2.2.2.2.2.2.2.1, s1.2.2.2.2.2.2.2.2.2.2.2.trans k2⟩
  have K2 : Kp W0 w2 := K1.trans k2
  clear s1 K1 k2
  go_wp2_with fail
  refine (hasLimits_any _ _ _ _ _ _ _ _ (HS.out.keep s2.2.2.2.2.2.2.2.2.2.2.2)).mono ?_
  rintro e3 w3 ⟨rfl, k3⟩
  have s3 : w3.cell? ⟨w.heap.size, 0, none⟩ = some (.slice At nt ct) ∧ w3.cell? ⟨w.heap.size, 1, none⟩ = some (.slice Ak nk ck) ∧ w3.cell? ⟨w.heap.size, 2, none⟩ = some (.int .i64 a) ∧ w3.cell? ⟨w.heap.size, 3, none⟩ = some (.int .i64 b) ∧ w3.cell? ⟨w.heap.size, 4, none⟩ = some (.int .i64 c) ∧ w3.cell? ⟨w.heap.size, 5, none⟩ = some (.int .i64 d) ∧ w3.cell? ⟨w.heap.size, 6, none⟩ = some (.int .i64 e) ∧ w3.cell? ⟨0, 0, none⟩ = some (.int .i64 1) ∧ w3.cell? ⟨0, 1, none⟩ = some (.int .i64 6) ∧ w3.cell? ⟨1, 0, none⟩ = some (.int .i64 1) ∧ w3.cell? ⟨1, 1, none⟩ = some (.int .i64 4) ∧ Kp w w3 := ⟨k3.cell s2.1, k3.cell s2.2.1, k3.cell s2.2.2.1, k3.cell s2.2.2.2.1, k3.cell s2.2.2.2.2.1, k3.cell s2.2.2.2.2.2.1, k3.cell s2.2.2.2.2.2.2.1, k3.cell s2.2.2.2.2.2.2.2.1, k3.cell s2.2.2.2.2.2.2.2.2.1, k3.cell s2.2.2.2.2.2.2.2.2.2.1, k3.cell s2.2.2.2.2.2.2.2.2.2.2.1, s2.2.2.2.2.2.2.2.2.2.2.2.trans k3⟩
  have K3 : Kp W0 w3 := K2.trans k3
  clear s2 K2 k3
  go_wp2_with fail
  clear s0
  go_loopw [4, 29] (fun _ i wr => ∃ k : Nat, k ≤ nt ∧ i = .int .i64 k ∧ Hid ((l.drop k).all (numT nk) = R) ∧ Kp w3 wr) (fun _ i _ => nt - (intOf i).toNat)
  case atStart => exact ⟨0, by omega, rfl, Lib.hid HR.out.symm, Kp.refl _⟩
  case round =>
    obtain ⟨k, hk, rfl, hE, kr⟩ := hrel
    have K0 : Kp w wr := s3.2.2.2.2.2.2.2.2.2.2.2.trans kr
    by_cases hlt : k < nt
    · have hlt' : (k : Int) < nt := by omega
      obtain ⟨g, off, rfl, hc⟩ := HAt.out (by omega)
      obtain ⟨x, hx⟩ : ∃ x, l[k]? = some x := ⟨l[k]'(by have := HNt.out; omega), List.getElem?_eq_getElem _⟩
      obtain ⟨Ac, cc, ⟨a0, a1, a2, a3, a4⟩, hri⟩ := (hc k x hx).keep K0
      have HX := Lib.hid (dropA hx)
      have hcb := (HL.out.bc x (List.mem_of_getElem? hx)).1
      obtain ⟨nm, cs, sh, hg, bl⟩ := x
      simp only at a0 a1 a2 a3 a4 hri hcb
      have c1 := kr.cell s3.2.1
      have hz := cell_lt c1
      generalize hnc : cs.length = nc at a1 hri hcb
      have HNC2 := Lib.hid hnc
      clear hc hx hnc
      have KA : Kp wr (wr.alloc (.cells #[.string nm, .slice Ac nc cc, .int .i64 sh, .int .i64 hg, .bool bl] 65)) := (Kp.refl wr).alloc _
      have HRI := Lib.hid (hri.keep KA)
      clear hri
      cases hok : numT nk ⟨nm, cs, sh, hg, bl⟩
      · have HE2 : Hid (R = false) := Lib.hid (by rw [← hE.out, HX.out]; exact allA_no hok)
        go_wp2_with fail
        refine (tNumbers_any _ _ _ _ _ _ _ cs _ _ (HS.out.keep (K0.trans KA)) HNC2.out HRI.out hcb (by omega)).mono ?_
        rintro e4 w4 ⟨rfl, k4⟩
        rw [hok]
        go_wp2_with fail
        go_ret
        exact ⟨ret_bool (by rw [HE2.out]; rfl), (K0.trans KA).trans k4⟩
      · have HE2 : Hid ((l.drop (k + 1)).all (numT nk) = R) := Lib.hid (by rw [← hE.out, HX.out]; exact (allA_go hok).symm)
        go_wp2_with fail
        refine (tNumbers_any _ _ _ _ _ _ _ cs _ _ (HS.out.keep (K0.trans KA)) HNC2.out HRI.out hcb (by omega)).mono ?_
        rintro e4 w4 ⟨rfl, k4⟩
        rw [hok]
        go_wp2_with fail
        go_roundw
        case rel => exact ⟨k + 1, by omega, by go_num, HE2, (kr.trans KA).trans k4⟩
        case measure => simp [intOf]; omega
    · obtain rfl : k = nt := by omega
      have HR1 : Hid (R = true) := Lib.hid (by rw [← hE.out, List.drop_of_length_le (by rw [HNt.out]; omega)]; rfl)
      have c1 := kr.cell s3.2.1
      go_wp2_with fail
      go_loopw [6, 43] (fun _ i wx => ∃ j : Nat, j ≤ nk ∧ i = .int .i64 j ∧ Hid ((m.drop j).all numK = Q) ∧ Kp w3 wx) (fun _ i _ => nk - (intOf i).toNat)
      case atStart => exact ⟨0, by omega, rfl, Lib.hid HQ.out.symm, kr⟩
      case round =>
        clear c1 K0 kr hE
        obtain ⟨j, hj, rfl, hE, kr⟩ := hrel
        have K0 : Kp w wr := s3.2.2.2.2.2.2.2.2.2.2.2.trans kr
        by_cases hlt : j < nk
        · have hlt' : (j : Int) < nk := by omega
          obtain ⟨g, off, rfl, hc⟩ := HAk.out (by omega)
          obtain ⟨x, hx⟩ : ∃ x, m[j]? = some x := ⟨m[j]'(by have := HNk.out; omega), List.getElem?_eq_getElem _⟩
          obtain ⟨a0, a1, a2, a3, a4, a5⟩ := (hc j x hx).keep K0
          have HX := Lib.hid (dropA hx)
          obtain ⟨nm, ks, km, kt, kz, kw⟩ := x
          simp only at a0 a1 a2 a3 a4 a5
          clear hc hx
          have KA : Kp wr (wr.alloc (.cells #[.string nm, .int .i64 ks, .int .i64 km, .int .i64 kt, .bool kz, .int .i64 kw] 76)) := (Kp.refl wr).alloc _
          cases hok : numK ⟨nm, ks, km, kt, kz, kw⟩
          · have HE2 : Hid (Q = false) := Lib.hid (by rw [← hE.out, HX.out]; exact allA_no hok)
            go_wp2_with fail
            refine (kNumbers_any _ _ _ _ _ _ _ (HS.out.keep (K0.trans KA))).mono ?_
            rintro e4 w4 ⟨rfl, k4⟩
            rw [hok]
            go_wp2_with fail
            go_ret
            exact ⟨ret_bool (by rw [HR1.out, HE2.out]; rfl), (K0.trans KA).trans k4⟩
          · have HE2 : Hid ((m.drop (j + 1)).all numK = Q) := Lib.hid (by rw [← hE.out, HX.out]; exact (allA_go hok).symm)
            go_wp2_with fail
            refine (kNumbers_any _ _ _ _ _ _ _ (HS.out.keep (K0.trans KA))).mono ?_
            rintro e4 w4 ⟨rfl, k4⟩
            rw [hok]
            go_wp2_with fail
            go_roundw
            case rel => exact ⟨j + 1, by omega, by go_num, HE2, (kr.trans KA).trans k4⟩
            case measure => simp [intOf]; omega
        · obtain rfl : j = nk := by omega
          have HQ1 : Hid (Q = true) := Lib.hid (by rw [← hE.out, List.drop_of_length_le (by rw [HNk.out]; omega)]; rfl)
          have b0 := kr.cell s3.1
          have b1 := kr.cell s3.2.1
          have b2 := kr.cell s3.2.2.1
          have b3 := kr.cell s3.2.2.2.1
          have b4 := kr.cell s3.2.2.2.2.1
          have b5 := kr.cell s3.2.2.2.2.2.1
          have b6 := kr.cell s3.2.2.2.2.2.2.1
          cases hn1 : B1
          · have HZ : Hid (namesOk (tNames l) = false) := Lib.hid (by rw [← HB1.out, hn1])
            go_wp2_with fail
            refine (terrainNames_any _ _ _ l _ _ _ _ _ _ _ (HL.out.keep K0).rt n6).mono ?_
            rintro e5 w5 ⟨An, cn, rfl, hrs, hnc, hcc, k5⟩
            go_wp2_with fail
            refine (areNames_any _ _ _ (tNames l) _ (by have := HNt.out; simpa [tNames] using this) hrs hb1 hnc hcc).mono ?_
            rintro e6 w6 ⟨rfl, rfl⟩
            rw [HZ.out]
            go_wp2_with fail
            go_ret
            exact ⟨ret_bool (by rw [HR1.out, HQ1.out, hn1]; rfl), K0.trans k5⟩
          · have HZ : Hid (namesOk (tNames l) = true) := Lib.hid (by rw [← HB1.out, hn1])
            go_wp2_with fail
            refine (terrainNames_any _ _ _ l _ _ _ _ _ _ _ (HL.out.keep K0).rt n6).mono ?_
            rintro e5 w5 ⟨An, cn, rfl, hrs, hnc, hcc, k5⟩
            have HRS := Lib.hid hrs
            have d0 := k5.cell b0
            have d1 := k5.cell b1
            have d2 := k5.cell b2
            have d3 := k5.cell b3
            have d4 := k5.cell b4
            have d5 := k5.cell b5
            have d6 := k5.cell b6
            clear hrs b0 b1 b2 b3 b4 b5 b6
            go_wp2_with fail
            refine (areNames_any _ _ _ (tNames l) _ (by have := HNt.out; simpa [tNames] using this) HRS.out hb1 hnc hcc).mono ?_
            rintro e6 w6 ⟨rfl, rfl⟩
            rw [HZ.out]
            go_wp2_with fail
            refine (kindNames_any _ _ _ m _ _ _ _ _ _ _ (HL.out.keep (K0.trans k5)).rk n4).mono ?_
            rintro e7 w7 ⟨Am, cm, rfl, hrs2, hnc2, hcc2, k7⟩
            have HRS2 := Lib.hid hrs2
            clear hrs2
            go_wp2_with fail
            refine (areNames_any _ _ _ (kNames m) _ (by have := HNk.out; simpa [kNames] using this) HRS2.out hb2 hnc2 hcc2).mono ?_
            rintro e8 w8 ⟨rfl, rfl⟩
            rw [← HB2.out]
            go_wp2_with fail
            go_ret
            exact ⟨ret_bool (by rw [HR1.out, HQ1.out, hn1]; rfl), (K0.trans k5).trans k7⟩

theorem isRules_any (At Ak : Option Addr) (nt nk ct ck : Nat) (l : List Ter) (m : List Knd) (a b c d e : Int) (w : World) (hs : Spans w) (h : RulAt w At Ak nt nk l m) :
    Calls Tryz.prog 69 #[rv (.slice At nt ct) (.slice Ak nk ck) a b c d e] w fun e' w' => e' = .returned (.bool (rulOk ⟨l, m, a, b, c, d, e⟩)) ∧ Kp w w' := by
  unfold rulOk
  simp only [h.rt.1, h.rk.1]
  cases h1 : spB 1 6 nt
  · exact isRules_no1 At Ak nt nk ct ck l m a b c d e w hs h h1
  · cases h2 : spB 1 4 nk
    · exact isRules_no2 At Ak nt nk ct ck l m a b c d e w hs h h1 h2
    · cases h3 : limB a b c d e
      · exact isRules_no3 At Ak nt nk ct ck l m a b c d e w hs h h1 h2 h3
      · exact isRules_yes At Ak nt nk ct ck l m a b c d e w hs h h1 h2 h3

end Go.Proofs.YtmolpkjdjkhnpaaGreatDoor

/-
  The laws' copy of rules: the same lists and numbers, in memory of its own. Nothing that was there is changed.
-/
namespace Go.Proofs.YtmolpkjdjkhnpaaGreatDoor
open Go.RowKit

theorem keepc7 {w w1 : World} {p0 p1 p2 p3 p4 p5 p6 : Addr} {v0 v1 v2 v3 v4 v5 v6 : Value} (k : Kp w w1) (h : w.cell? p0 = some v0 ∧ w.cell? p1 = some v1 ∧ w.cell? p2 = some v2 ∧ w.cell? p3 = some v3 ∧ w.cell? p4 = some v4 ∧ w.cell? p5 = some v5 ∧ w.cell? p6 = some v6) : w1.cell? p0 = some v0 ∧ w1.cell? p1 = some v1 ∧ w1.cell? p2 = some v2 ∧ w1.cell? p3 = some v3 ∧ w1.cell? p4 = some v4 ∧ w1.cell? p5 = some v5 ∧ w1.cell? p6 = some v6 :=
  ⟨k.cell h.1, k.cell h.2.1, k.cell h.2.2.1, k.cell h.2.2.2.1, k.cell h.2.2.2.2.1, k.cell h.2.2.2.2.2.1, k.cell h.2.2.2.2.2.2⟩
abbrev Live7 (w : World) (b : Nat) (v0 v1 v2 v3 v4 v5 v6 : Value) : Prop :=
  (w.cell? ⟨b, 0, none⟩ = some v0 ∧ w.frozen? ⟨b, 0, none⟩ = false) ∧ (w.cell? ⟨b, 1, none⟩ = some v1 ∧ w.frozen? ⟨b, 1, none⟩ = false) ∧ (w.cell? ⟨b, 2, none⟩ = some v2 ∧ w.frozen? ⟨b, 2, none⟩ = false) ∧ (w.cell? ⟨b, 3, none⟩ = some v3 ∧ w.frozen? ⟨b, 3, none⟩ = false) ∧ (w.cell? ⟨b, 4, none⟩ = some v4 ∧ w.frozen? ⟨b, 4, none⟩ = false) ∧ (w.cell? ⟨b, 5, none⟩ = some v5 ∧ w.frozen? ⟨b, 5, none⟩ = false) ∧ (w.cell? ⟨b, 6, none⟩ = some v6 ∧ w.frozen? ⟨b, 6, none⟩ = false)
theorem live7_keep {w w' : World} {b : Nat} {v0 v1 v2 v3 v4 v5 v6 : Value} (k : Kp w w') (h : Live7 w b v0 v1 v2 v3 v4 v5 v6) : Live7 w' b v0 v1 v2 v3 v4 v5 v6 :=
  ⟨k.liv h.1, k.liv h.2.1, k.liv h.2.2.1, k.liv h.2.2.2.1, k.liv h.2.2.2.2.1, k.liv h.2.2.2.2.2.1, k.liv h.2.2.2.2.2.2⟩

theorem ownRow_far {w : World} {base g n sz cap : Nat} {e : TypeId} {ys : List Value} (h : w.ownsRow base e sz (.slice (some ⟨g, 0, none⟩) n cap) n ys) {b j : Nat} (hb : b < base) (u : Value) : (w.setCell ⟨b, j, none⟩ u).ownsRow base e sz (.slice (some ⟨g, 0, none⟩) n cap) n ys :=
  ownsRow_setCell_below h (a := ⟨b, j, none⟩) hb u
theorem OwnT.far {w : World} {g n : Nat} {l : List Ter} {cs : List (Option Addr × Nat)} {ys : List Value} (h : OwnT w g n l cs ys) {b j : Nat} (hb : b < g) (u : Value) : OwnT (w.setCell ⟨b, j, none⟩ u) g n l cs ys :=
  ⟨ownRow_far h.row hb u, h.here, fun i x c hx hc => (h.each i x c hx hc).far ((h.each i x c hx hc).not (by omega)) u, h.apart⟩
theorem OwnK.far {w : World} {g n : Nat} {l : List Knd} {ys : List Value} (h : OwnK w g n l ys) {b j : Nat} (hb : b < g) (u : Value) : OwnK (w.setCell ⟨b, j, none⟩ u) g n l ys :=
  ⟨ownRow_far h.row hb u, h.here⟩

/-- Copied rules: the terrains' row, their costs, the kinds' row, in blocks of their own from a number on. -/
structure OwnR (w : World) (base g1 g2 nt nk : Nat) (l : List Ter) (m : List Knd) (cs : List (Option Addr × Nat)) (ys zs : List Value) : Prop where
  t : OwnT w g1 nt l cs ys
  k : OwnK w g2 nk m zs
  lc : cs.length = nt
  lt : l.length = nt
  lk : m.length = nk
  b : base ≤ g1
  g : g1 < g2
  z : g2 < w.heap.size
  mid : ∀ (j : Nat) (c : Option Addr × Nat) (x k : Nat), cs[j]? = some c → (Value.slice c.1 x c.2).ownBlock = some k → g1 < k ∧ k < g2
theorem OwnR.keep {w w' : World} {base g1 g2 nt nk : Nat} {l : List Ter} {m : List Knd} {cs : List (Option Addr × Nat)} {ys zs : List Value} (h : OwnR w base g1 g2 nt nk l m cs ys zs) (k : Kp w w') : OwnR w' base g1 g2 nt nk l m cs ys zs :=
  ⟨h.t.keep k, h.k.keep k, h.lc, h.lt, h.lk, h.b, h.g, Nat.lt_of_lt_of_le h.z k.size, h.mid⟩
theorem OwnR.rul {w w0 : World} {At Ak : Option Addr} {base g1 g2 nt nk : Nat} {l : List Ter} {m : List Knd} {cs : List (Option Addr × Nat)} {ys zs : List Value} (h : OwnR w base g1 g2 nt nk l m cs ys zs) (r : RulAt w0 At Ak nt nk l m) : RulAt w (some ⟨g1, 0, none⟩) (some ⟨g2, 0, none⟩) nt nk l m :=
  ⟨h.t.rd h.lt h.lc, h.k.rd h.lk, r.bt, r.bk, r.bc, r.bn⟩

set_option maxRecDepth 100000 in
set_option maxHeartbeats 2000000 in
theorem toRules_any (At Ak : Option Addr) (nt nk ct ck : Nat) (l : List Ter) (m : List Knd) (a b c d e : Int) (w : World) (h : RulAt w At Ak nt nk l m) :
    Calls Tryz.prog 16 #[rv (.slice At nt ct) (.slice Ak nk ck) a b c d e] w fun e' w' => ∃ (g1 g2 : Nat) (cs : List (Option Addr × Nat)) (ys zs : List Value), e' = .returned (rv (.slice (some ⟨g1, 0, none⟩) nt nt) (.slice (some ⟨g2, 0, none⟩) nk nk) a b c d e) ∧ OwnR w' w.heap.size g1 g2 nt nk l m cs ys zs ∧ Kp w w' := by
  have HL := Lib.hid h
  have hb1 := h.bt
  have hb2 := h.bk
  have HBC : Hid (∀ x ∈ l, x.cost.length ≤ 1048576) := Lib.hid fun x hx => (h.bc x hx).1
  clear h
  go_enter Tryz.func16, Tryz.ntmps16
  go_wp2_with fail
  have k0 : Kp w (((w.alloc (.cells #[.slice At nt ct, .slice Ak nk ck, .int .i64 a, .int .i64 b, .int .i64 c, .int .i64 d, .int .i64 e] 25)).alloc (.cells #[.slice none 0 0, .slice none 0 0, .int .i64 0, .int .i64 0, .int .i64 0, .int .i64 0, .int .i64 0] 35)).alloc (.cells #[.slice none 0 0, .slice none 0 0, .int .i64 0, .int .i64 0, .int .i64 0, .int .i64 0, .int .i64 0] 35)) := (((Kp.refl w).alloc _).alloc _).alloc _
  refine (toTerrainS_any _ _ _ l _ (HL.out.keep k0).rt hb1 HBC.out).mono ?_
  rintro e1 w1 ⟨cs, ys, rfl, hcs, o1, k1⟩
  have a1 : w1.cell? ⟨w.heap.size, 1, none⟩ = some (.slice Ak nk ck) := k1.cell (by simp [go_sem])
  have a2 : w1.cell? ⟨w.heap.size, 2, none⟩ = some (.int .i64 a) := k1.cell (by simp [go_sem])
  have a3 : w1.cell? ⟨w.heap.size, 3, none⟩ = some (.int .i64 b) := k1.cell (by simp [go_sem])
  have a4 : w1.cell? ⟨w.heap.size, 4, none⟩ = some (.int .i64 c) := k1.cell (by simp [go_sem])
  have a5 : w1.cell? ⟨w.heap.size, 5, none⟩ = some (.int .i64 d) := k1.cell (by simp [go_sem])
  have a6 : w1.cell? ⟨w.heap.size, 6, none⟩ = some (.int .i64 e) := k1.cell (by simp [go_sem])
  have L1 : Live7 w1 (w.heap.size + 1) (.slice none 0 0) (.slice none 0 0) (.int .i64 0) (.int .i64 0) (.int .i64 0) (.int .i64 0) (.int .i64 0) := live7_keep k1 ⟨by simp [go_sem], by simp [go_sem], by simp [go_sem], by simp [go_sem], by simp [go_sem], by simp [go_sem], by simp [go_sem]⟩
  have M1 : Live7 w1 (w.heap.size + 1 + 1) (.slice none 0 0) (.slice none 0 0) (.int .i64 0) (.int .i64 0) (.int .i64 0) (.int .i64 0) (.int .i64 0) := live7_keep k1 ⟨by simp [go_sem], by simp [go_sem], by simp [go_sem], by simp [go_sem], by simp [go_sem], by simp [go_sem], by simp [go_sem]⟩
  have K1 : Kp w w1 := k0.trans k1
  have z1 : w.heap.size + 3 < w1.heap.size := by
    have := World.ownsRow.lt o1.row _ rfl
    simp at this
    omega
  have eg : (((w.alloc (.cells #[.slice At nt ct, .slice Ak nk ck, .int .i64 a, .int .i64 b, .int .i64 c, .int .i64 d, .int .i64 e] 25)).alloc (.cells #[.slice none 0 0, .slice none 0 0, .int .i64 0, .int .i64 0, .int .i64 0, .int .i64 0, .int .i64 0] 35)).alloc (.cells #[.slice none 0 0, .slice none 0 0, .int .i64 0, .int .i64 0, .int .i64 0, .int .i64 0, .int .i64 0] 35)).heap.size = w.heap.size + 3 := by simp
  rw [eg] at o1 ⊢
  have O1 := Lib.hid o1
  have HC := Lib.hid hcs
  clear k0 k1 o1 hcs eg
  go_wp2_with fail
  have K1' : Kp w (w1.setCell ⟨w.heap.size + 1 + 1, 0, none⟩ (.slice (some ⟨w.heap.size + 3, 0, none⟩) nt nt)) := K1.setCell (by simp <;> omega) _
  refine (toKindS_any _ _ _ m _ (HL.out.keep K1').rk hb2).mono ?_
  rintro e2 w2 ⟨zs, rfl, o2, k2⟩
  have b2 : w2.cell? ⟨w.heap.size, 2, none⟩ = some (.int .i64 a) := k2.cell (by simp [go_sem, *])
  have b3 : w2.cell? ⟨w.heap.size, 3, none⟩ = some (.int .i64 b) := k2.cell (by simp [go_sem, *])
  have b4 : w2.cell? ⟨w.heap.size, 4, none⟩ = some (.int .i64 c) := k2.cell (by simp [go_sem, *])
  have b5 : w2.cell? ⟨w.heap.size, 5, none⟩ = some (.int .i64 d) := k2.cell (by simp [go_sem, *])
  have b6 : w2.cell? ⟨w.heap.size, 6, none⟩ = some (.int .i64 e) := k2.cell (by simp [go_sem, *])
  have L2 : Live7 w2 (w.heap.size + 1) (.slice none 0 0) (.slice none 0 0) (.int .i64 0) (.int .i64 0) (.int .i64 0) (.int .i64 0) (.int .i64 0) := live7_keep k2 ⟨by simp [go_sem, *], by simp [go_sem, *], by simp [go_sem, *], by simp [go_sem, *], by simp [go_sem, *], by simp [go_sem, *], by simp [go_sem, *]⟩
  have M2 : Live7 w2 (w.heap.size + 1 + 1) (.slice (some ⟨w.heap.size + 3, 0, none⟩) nt nt) (.slice none 0 0) (.int .i64 0) (.int .i64 0) (.int .i64 0) (.int .i64 0) (.int .i64 0) := live7_keep k2 ⟨by simp [go_sem, *], by simp [go_sem, *], by simp [go_sem, *], by simp [go_sem, *], by simp [go_sem, *], by simp [go_sem, *], by simp [go_sem, *]⟩
  have K2 : Kp w w2 := K1'.trans k2
  have O2 := Lib.hid (((O1.out.far (b := w.heap.size + 1 + 1) (by omega) (.slice (some ⟨w.heap.size + 3, 0, none⟩) nt nt) (j := 0))).keep k2)
  have eg : (w1.setCell ⟨w.heap.size + 1 + 1, 0, none⟩ (.slice (some ⟨w.heap.size + 3, 0, none⟩) nt nt)).heap.size = w1.heap.size := by simp
  rw [eg] at o2 ⊢
  have z2 : w1.heap.size < w2.heap.size := by
    have := World.ownsRow.lt o2.row _ rfl
    omega
  have P2 := Lib.hid o2
  have MID : Hid (∀ (j : Nat) (c : Option Addr × Nat) (x k : Nat), cs[j]? = some c → (Value.slice c.1 x c.2).ownBlock = some k → w.heap.size + 3 < k ∧ k < w1.heap.size) := Lib.hid fun j c x k hc hk => by
    have hj := lt_of_at hc
    have hx : l[j]? = some (l[j]'(by have := HC.out; have := HL.out.rt.1; omega)) := List.getElem?_eq_getElem _
    have := World.ownsRow.lt (O1.out.each j _ c hx hc) k ((ownBlock_len _ _ _ _).trans hk)
    omega
  generalize hg2 : w1.heap.size = G2 at *
  clear K1' k2 o2 a1 a2 a3 a4 a5 a6 L1 M1 K1 O1 eg hg2
  go_wp2_with fail
  refine bodyPost_ret (v := rv (.slice (some ⟨w.heap.size + 3, 0, none⟩) nt nt) (.slice (some ⟨G2, 0, none⟩) nk nk) a b c d e) (by simp [results, Tryz.results16, go_sem, *]) rfl ⟨_, _, cs, ys, zs, rfl, ⟨?_, ?_, HC.out, HL.out.rt.1, HL.out.rk.1, by omega, z1, by simpa using z2, MID.out⟩, ?_⟩
  · exact (((((((((((((O2.out.far (by omega) _).far (by omega) _).far (by omega) _).far (by omega) _).far (by omega) _).far (by omega) _).far (by omega) _).far (by omega) _).far (by omega) _).far (by omega) _).far (by omega) _).far (by omega) _).far (by omega) _)
  · exact (((((((((((((P2.out.far (by omega) _).far (by omega) _).far (by omega) _).far (by omega) _).far (by omega) _).far (by omega) _).far (by omega) _).far (by omega) _).far (by omega) _).far (by omega) _).far (by omega) _).far (by omega) _).far (by omega) _)
  · exact (((((((((((((K2.setCell (by simp <;> omega) _).setCell (by simp <;> omega) _).setCell (by simp <;> omega) _).setCell (by simp <;> omega) _).setCell (by simp <;> omega) _).setCell (by simp <;> omega) _).setCell (by simp <;> omega) _).setCell (by simp <;> omega) _).setCell (by simp <;> omega) _).setCell (by simp <;> omega) _).setCell (by simp <;> omega) _).setCell (by simp <;> omega) _).setCell (by simp <;> omega) _)

end Go.Proofs.YtmolpkjdjkhnpaaGreatDoor

/-
  The reference's places of names and its test of rules return what plain functions on lists say, and change nothing that was there.
-/
namespace Go.Proofs.YtmolpkjdjkhnpaaGreatDoor
open Go.RowKit

set_option maxRecDepth 100000 in
set_option maxHeartbeats 1000000 in
theorem rTerrain_any (A : Option Addr) (n c : Nat) (l : List Ter) (m : ByteArray) (w : World) (h : RdT w A n l) (hl : n ≤ 1048576) :
    Calls Tryz.prog 61 #[.slice A n c, .string m] w fun e w' => e = .returned (.int .i64 (idxS (tNames l) m)) ∧ Kp w w' := by
  have HN := Lib.hid h.1
  have HA := Lib.hid h.2
  have HLn : Hid ((tNames l).length = n) := Lib.hid (by rw [← h.1]; simp [tNames])
  obtain ⟨R, hR⟩ : ∃ R, R = idxS (tNames l) m := ⟨_, rfl⟩
  rw [← hR]
  have HR := Lib.hid hR
  clear h hR
  go_enter Tryz.func61, Tryz.ntmps61
  go_wp2_with fail
  go_loopw [5, 6, 9] (fun _ _ i wr => ∃ k : Nat, k ≤ n ∧ i = .int .i64 k ∧ Hid (∀ j, j < k → (tNames l).getD j ByteArray.empty ≠ m) ∧ Kp w wr) (fun _ _ i _ => n - (intOf i).toNat)
  case atStart => exact ⟨0, by omega, rfl, Lib.hid fun j hj => absurd hj (by omega), Kp.refl _⟩
  case round =>
    obtain ⟨k, hk, rfl, hE, kr⟩ := hrel
    by_cases hlt : k < n
    · have hlt' : (k : Int) < n := by omega
      obtain ⟨g, off, rfl, hc⟩ := HA.out (by omega)
      obtain ⟨x, hx⟩ : ∃ x, l[k]? = some x := ⟨l[k]'(by have := HN.out; omega), List.getElem?_eq_getElem _⟩
      obtain ⟨Ac, cc, ⟨a0, a1, a2, a3, a4⟩, _⟩ := (hc k x hx).keep kr
      have HX : Hid ((tNames l)[k]? = some x.name) := Lib.hid (by simp [tNames, hx])
      obtain ⟨nm, cs, sh, hg, bl⟩ := x
      simp only at a0 a1 a2 a3 a4 HX
      generalize cs.length = nc at a1
      clear hc hx
      have KA : Kp wr (wr.alloc (.cells #[.string nm, .slice Ac nc cc, .int .i64 sh, .int .i64 hg, .bool bl] 65)) := (Kp.refl wr).alloc _
      by_cases hok : nm = m
      · have HE2 : Hid (R = (k : Int)) := Lib.hid (by rw [HR.out]; exact idxS_hit (by rw [← hok]; exact HX.out) hE.out)
        have he : (nm.toList == m.toList) = true := (Lib.bytes_beq_iff nm m).2 hok
        clear hok
        go_wp2_with fail
        go_ret
        exact ⟨ret_int HE2.out.symm, kr.trans KA⟩
      · have HE2 := Lib.hid (not_more HX.out hok hE.out)
        have he : (nm.toList == m.toList) = false := (Lib.bytes_beq_false_iff nm m).2 hok
        clear hok
        go_wp2_with fail
        go_roundw
        case rel => exact ⟨k + 1, by omega, by go_num, HE2, kr.trans KA⟩
        case measure => simp [intOf]; omega
    · obtain rfl : k = n := by omega
      go_wp2_with fail
      go_ret
      refine ⟨ret_int ?_, kr⟩
      rw [HR.out, idxS_miss (fun j hj => hE.out j (by have := HLn.out; omega))]

set_option maxRecDepth 100000 in
set_option maxHeartbeats 1000000 in
theorem rKind_any (A : Option Addr) (n c : Nat) (l : List Knd) (m : ByteArray) (w : World) (h : RdK w A n l) (hl : n ≤ 1048576) :
    Calls Tryz.prog 62 #[.slice A n c, .string m] w fun e w' => e = .returned (.int .i64 (idxS (kNames l) m)) ∧ Kp w w' := by
  have HN := Lib.hid h.1
  have HA := Lib.hid h.2
  have HLn : Hid ((kNames l).length = n) := Lib.hid (by rw [← h.1]; simp [kNames])
  obtain ⟨R, hR⟩ : ∃ R, R = idxS (kNames l) m := ⟨_, rfl⟩
  rw [← hR]
  have HR := Lib.hid hR
  clear h hR
  go_enter Tryz.func62, Tryz.ntmps62
  go_wp2_with fail
  go_loopw [5, 6, 9] (fun _ _ i wr => ∃ k : Nat, k ≤ n ∧ i = .int .i64 k ∧ Hid (∀ j, j < k → (kNames l).getD j ByteArray.empty ≠ m) ∧ Kp w wr) (fun _ _ i _ => n - (intOf i).toNat)
  case atStart => exact ⟨0, by omega, rfl, Lib.hid fun j hj => absurd hj (by omega), Kp.refl _⟩
  case round =>
    obtain ⟨k, hk, rfl, hE, kr⟩ := hrel
    by_cases hlt : k < n
    · have hlt' : (k : Int) < n := by omega
      obtain ⟨g, off, rfl, hc⟩ := HA.out (by omega)
      obtain ⟨x, hx⟩ : ∃ x, l[k]? = some x := ⟨l[k]'(by have := HN.out; omega), List.getElem?_eq_getElem _⟩
      obtain ⟨a0, a1, a2, a3, a4, a5⟩ := (hc k x hx).keep kr
      have HX : Hid ((kNames l)[k]? = some x.name) := Lib.hid (by simp [kNames, hx])
      obtain ⟨nm, ks, km, kt, kz, kw⟩ := x
      simp only at a0 a1 a2 a3 a4 a5 HX
      clear hc hx
      have KA : Kp wr (wr.alloc (.cells #[.string nm, .int .i64 ks, .int .i64 km, .int .i64 kt, .bool kz, .int .i64 kw] 76)) := (Kp.refl wr).alloc _
      by_cases hok : nm = m
      · have HE2 : Hid (R = (k : Int)) := Lib.hid (by rw [HR.out]; exact idxS_hit (by rw [← hok]; exact HX.out) hE.out)
        have he : (nm.toList == m.toList) = true := (Lib.bytes_beq_iff nm m).2 hok
        clear hok
        go_wp2_with fail
        go_ret
        exact ⟨ret_int HE2.out.symm, kr.trans KA⟩
      · have HE2 := Lib.hid (not_more HX.out hok hE.out)
        have he : (nm.toList == m.toList) = false := (Lib.bytes_beq_false_iff nm m).2 hok
        clear hok
        go_wp2_with fail
        go_roundw
        case rel => exact ⟨k + 1, by omega, by go_num, HE2, kr.trans KA⟩
        case measure => simp [intOf]; omega
    · obtain rfl : k = n := by omega
      go_wp2_with fail
      go_ret
      refine ⟨ret_int ?_, kr⟩
      rw [HR.out, idxS_miss (fun j hj => hE.out j (by have := HLn.out; omega))]

set_option maxRecDepth 100000 in
set_option maxHeartbeats 2000000 in
theorem rGood_no1 (At Ak : Option Addr) (nt nk ct ck : Nat) (l : List Ter) (m : List Knd) (a b c d e : Int) (w : World) (h : RulAt w At Ak nt nk l m) (h1 : spB 1 6 nt = false) :
    Calls Tryz.prog 30 #[rv (.slice At nt ct) (.slice Ak nk ck) a b c d e] w fun e' w' => e' = .returned (.bool false) ∧ Kp w w' := by
  have s0 : (w.alloc (.cells #[.slice At nt ct, .slice Ak nk ck, .int .i64 a, .int .i64 b, .int .i64 c, .int .i64 d, .int .i64 e] 35)).cell? ⟨w.heap.size, 0, none⟩ = some (.slice At nt ct) ∧ (w.alloc (.cells #[.slice At nt ct, .slice Ak nk ck, .int .i64 a, .int .i64 b, .int .i64 c, .int .i64 d, .int .i64 e] 35)).cell? ⟨w.heap.size, 1, none⟩ = some (.slice Ak nk ck) ∧ (w.alloc (.cells #[.slice At nt ct, .slice Ak nk ck, .int .i64 a, .int .i64 b, .int .i64 c, .int .i64 d, .int .i64 e] 35)).cell? ⟨w.heap.size, 2, none⟩ = some (.int .i64 a) ∧ (w.alloc (.cells #[.slice At nt ct, .slice Ak nk ck, .int .i64 a, .int .i64 b, .int .i64 c, .int .i64 d, .int .i64 e] 35)).cell? ⟨w.heap.size, 3, none⟩ = some (.int .i64 b) ∧ (w.alloc (.cells #[.slice At nt ct, .slice Ak nk ck, .int .i64 a, .int .i64 b, .int .i64 c, .int .i64 d, .int .i64 e] 35)).cell? ⟨w.heap.size, 4, none⟩ = some (.int .i64 c) ∧ (w.alloc (.cells #[.slice At nt ct, .slice Ak nk ck, .int .i64 a, .int .i64 b, .int .i64 c, .int .i64 d, .int .i64 e] 35)).cell? ⟨w.heap.size, 5, none⟩ = some (.int .i64 d) ∧ (w.alloc (.cells #[.slice At nt ct, .slice Ak nk ck, .int .i64 a, .int .i64 b, .int .i64 c, .int .i64 d, .int .i64 e] 35)).cell? ⟨w.heap.size, 6, none⟩ = some (.int .i64 e) ∧ Kp w (w.alloc (.cells #[.slice At nt ct, .slice Ak nk ck, .int .i64 a, .int .i64 b, .int .i64 c, .int .i64 d, .int .i64 e] 35)) :=
    ⟨by simp [go_sem], by simp [go_sem], by simp [go_sem], by simp [go_sem], by simp [go_sem], by simp [go_sem], by simp [go_sem], (Kp.refl w).alloc _⟩
  have HL := Lib.hid h
  have hb1 := h.bt
  have hb2 := h.bk
  clear h
  go_enter Tryz.func30, Tryz.ntmps30
  go_wp2_with fail
  generalize w.alloc (.cells #[.slice At nt ct, .slice Ak nk ck, .int .i64 a, .int .i64 b, .int .i64 c, .int .i64 d, .int .i64 e] 35) = W0 at *
  refine (l1In_sp _ _ _ _).mono ?_
  rintro e1 w1 ⟨rfl, rfl⟩
  go_wp2_with fail
  go_ret
  exact ⟨rfl, s0.2.2.2.2.2.2.2⟩

set_option maxRecDepth 100000 in
set_option maxHeartbeats 2000000 in
theorem rGood_no2 (At Ak : Option Addr) (nt nk ct ck : Nat) (l : List Ter) (m : List Knd) (a b c d e : Int) (w : World) (h : RulAt w At Ak nt nk l m) (h1 : spB 1 6 nt = true) (h2 : spB 1 4 nk = false) :
    Calls Tryz.prog 30 #[rv (.slice At nt ct) (.slice Ak nk ck) a b c d e] w fun e' w' => e' = .returned (.bool false) ∧ Kp w w' := by
  have s0 : (w.alloc (.cells #[.slice At nt ct, .slice Ak nk ck, .int .i64 a, .int .i64 b, .int .i64 c, .int .i64 d, .int .i64 e] 35)).cell? ⟨w.heap.size, 0, none⟩ = some (.slice At nt ct) ∧ (w.alloc (.cells #[.slice At nt ct, .slice Ak nk ck, .int .i64 a, .int .i64 b, .int .i64 c, .int .i64 d, .int .i64 e] 35)).cell? ⟨w.heap.size, 1, none⟩ = some (.slice Ak nk ck) ∧ (w.alloc (.cells #[.slice At nt ct, .slice Ak nk ck, .int .i64 a, .int .i64 b, .int .i64 c, .int .i64 d, .int .i64 e] 35)).cell? ⟨w.heap.size, 2, none⟩ = some (.int .i64 a) ∧ (w.alloc (.cells #[.slice At nt ct, .slice Ak nk ck, .int .i64 a, .int .i64 b, .int .i64 c, .int .i64 d, .int .i64 e] 35)).cell? ⟨w.heap.size, 3, none⟩ = some (.int .i64 b) ∧ (w.alloc (.cells #[.slice At nt ct, .slice Ak nk ck, .int .i64 a, .int .i64 b, .int .i64 c, .int .i64 d, .int .i64 e] 35)).cell? ⟨w.heap.size, 4, none⟩ = some (.int .i64 c) ∧ (w.alloc (.cells #[.slice At nt ct, .slice Ak nk ck, .int .i64 a, .int .i64 b, .int .i64 c, .int .i64 d, .int .i64 e] 35)).cell? ⟨w.heap.size, 5, none⟩ = some (.int .i64 d) ∧ (w.alloc (.cells #[.slice At nt ct, .slice Ak nk ck, .int .i64 a, .int .i64 b, .int .i64 c, .int .i64 d, .int .i64 e] 35)).cell? ⟨w.heap.size, 6, none⟩ = some (.int .i64 e) ∧ Kp w (w.alloc (.cells #[.slice At nt ct, .slice Ak nk ck, .int .i64 a, .int .i64 b, .int .i64 c, .int .i64 d, .int .i64 e] 35)) :=
    ⟨by simp [go_sem], by simp [go_sem], by simp [go_sem], by simp [go_sem], by simp [go_sem], by simp [go_sem], by simp [go_sem], (Kp.refl w).alloc _⟩
  have HL := Lib.hid h
  have hb1 := h.bt
  have hb2 := h.bk
  clear h
  go_enter Tryz.func30, Tryz.ntmps30
  go_wp2_with fail
  generalize w.alloc (.cells #[.slice At nt ct, .slice Ak nk ck, .int .i64 a, .int .i64 b, .int .i64 c, .int .i64 d, .int .i64 e] 35) = W0 at *
  refine (l1In_sp _ _ _ _).mono ?_
  rintro e1 w1 ⟨rfl, rfl⟩
  go_wp2_with fail
  refine (l1In_sp _ _ _ _).mono ?_
  rintro e2 w2 ⟨rfl, rfl⟩
  go_wp2_with fail
  go_ret
  exact ⟨rfl, s0.2.2.2.2.2.2.2⟩

set_option maxRecDepth 100000 in
set_option maxHeartbeats 16000000 in
theorem rGood_yes (At Ak : Option Addr) (nt nk ct ck : Nat) (l : List Ter) (m : List Knd) (a b c d e : Int) (w : World) (h : RulAt w At Ak nt nk l m) (h1 : spB 1 6 nt = true) (h2 : spB 1 4 nk = true) :
    Calls Tryz.prog 30 #[rv (.slice At nt ct) (.slice Ak nk ck) a b c d e] w fun e' w' => e' = .returned (.bool (allN nt (terF l nk) && (allN nk (kndF m) && limB a b c d e))) ∧ Kp w w' := by
  have s0 : (w.alloc (.cells #[.slice At nt ct, .slice Ak nk ck, .int .i64 a, .int .i64 b, .int .i64 c, .int .i64 d, .int .i64 e] 35)).cell? ⟨w.heap.size, 0, none⟩ = some (.slice At nt ct) ∧ (w.alloc (.cells #[.slice At nt ct, .slice Ak nk ck, .int .i64 a, .int .i64 b, .int .i64 c, .int .i64 d, .int .i64 e] 35)).cell? ⟨w.heap.size, 1, none⟩ = some (.slice Ak nk ck) ∧ (w.alloc (.cells #[.slice At nt ct, .slice Ak nk ck, .int .i64 a, .int .i64 b, .int .i64 c, .int .i64 d, .int .i64 e] 35)).cell? ⟨w.heap.size, 2, none⟩ = some (.int .i64 a) ∧ (w.alloc (.cells #[.slice At nt ct, .slice Ak nk ck, .int .i64 a, .int .i64 b, .int .i64 c, .int .i64 d, .int .i64 e] 35)).cell? ⟨w.heap.size, 3, none⟩ = some (.int .i64 b) ∧ (w.alloc (.cells #[.slice At nt ct, .slice Ak nk ck, .int .i64 a, .int .i64 b, .int .i64 c, .int .i64 d, .int .i64 e] 35)).cell? ⟨w.heap.size, 4, none⟩ = some (.int .i64 c) ∧ (w.alloc (.cells #[.slice At nt ct, .slice Ak nk ck, .int .i64 a, .int .i64 b, .int .i64 c, .int .i64 d, .int .i64 e] 35)).cell? ⟨w.heap.size, 5, none⟩ = some (.int .i64 d) ∧ (w.alloc (.cells #[.slice At nt ct, .slice Ak nk ck, .int .i64 a, .int .i64 b, .int .i64 c, .int .i64 d, .int .i64 e] 35)).cell? ⟨w.heap.size, 6, none⟩ = some (.int .i64 e) ∧ Kp w (w.alloc (.cells #[.slice At nt ct, .slice Ak nk ck, .int .i64 a, .int .i64 b, .int .i64 c, .int .i64 d, .int .i64 e] 35)) :=
    ⟨by simp [go_sem], by simp [go_sem], by simp [go_sem], by simp [go_sem], by simp [go_sem], by simp [go_sem], by simp [go_sem], (Kp.refl w).alloc _⟩
  have HL := Lib.hid h
  have hb1 := h.bt
  have hb2 := h.bk
  clear h
  obtain ⟨R, hR⟩ : ∃ R, R = allN nt (terF l nk) := ⟨_, rfl⟩
  obtain ⟨Q, hQ⟩ : ∃ Q, Q = allN nk (kndF m) := ⟨_, rfl⟩
  rw [← hR, ← hQ]
  have HR := Lib.hid hR
  have HQ := Lib.hid hQ
  have HNt := Lib.hid HL.out.rt.1
  have HNk := Lib.hid HL.out.rk.1
  have HAt := Lib.hid HL.out.rt.2
  have HAk := Lib.hid HL.out.rk.2
  clear hR hQ
  go_enter Tryz.func30, Tryz.ntmps30
  go_wp2_with fail
  generalize w.alloc (.cells #[.slice At nt ct, .slice Ak nk ck, .int .i64 a, .int .i64 b, .int .i64 c, .int .i64 d, .int .i64 e] 35) = W0 at *
  refine (l1In_sp _ _ _ _).mono ?_
  rintro e1 w1 ⟨rfl, rfl⟩
  go_wp2_with fail
  refine (l1In_sp _ _ _ _).mono ?_
  rintro e2 w2 ⟨rfl, rfl⟩
  go_wp2_with fail
  go_loopw [3, 4, 22] (fun _ _ i wr => ∃ k : Nat, k ≤ nt ∧ i = .int .i64 k ∧ Hid (∀ j, j < k → terF l nk j = true) ∧ Kp W0 wr) (fun _ _ i _ => nt - (intOf i).toNat)
  case atStart => exact ⟨0, by omega, rfl, Lib.hid fun j hj => absurd hj (by omega), Kp.refl _⟩
  case round =>
    obtain ⟨k, hk, rfl, hE, kr⟩ := hrel
    have K0 : Kp w wr := s0.2.2.2.2.2.2.2.trans kr
    by_cases hlt : k < nt
    · have hlt' : (k : Int) < nt := by omega
      obtain ⟨g, off, rfl, hc⟩ := HAt.out (by omega)
      obtain ⟨x, hx⟩ : ∃ x, l[k]? = some x := ⟨l[k]'(by have := HNt.out; omega), List.getElem?_eq_getElem _⟩
      obtain ⟨Ac, cc, ⟨a0, a1, a2, a3, a4⟩, hri⟩ := (hc k x hx).keep K0
      have HX := Lib.hid hx
      obtain ⟨hcb, hnb⟩ := HL.out.bc x (List.mem_of_getElem? hx)
      obtain ⟨nm, cs, sh, hg, bl⟩ := x
      simp only at a0 a1 a2 a3 a4 hri hcb hnb
      have hcb2 := hcb
      have c0 := kr.cell s0.1
      have c1 := kr.cell s0.2.1
      have hz := cell_lt c1
      generalize hnc : cs.length = nc at a1 hri hcb
      have HNC2 := Lib.hid hnc
      clear hc hx hnc
      have KA : Kp wr (wr.alloc (.cells #[.string nm, .slice Ac nc cc, .int .i64 sh, .int .i64 hg, .bool bl] 65)) := (Kp.refl wr).alloc _
      have HRI := Lib.hid (hri.keep KA)
      have g1 : (wr.alloc (.cells #[.string nm, .slice Ac nc cc, .int .i64 sh, .int .i64 hg, .bool bl] 65)).cell? ⟨wr.heap.size, 1, none⟩ = some (.slice Ac nc cc) := by simp [go_sem]
      have g2 : (wr.alloc (.cells #[.string nm, .slice Ac nc cc, .int .i64 sh, .int .i64 hg, .bool bl] 65)).cell? ⟨wr.heap.size, 2, none⟩ = some (.int .i64 sh) := by simp [go_sem]
      have g3 : (wr.alloc (.cells #[.string nm, .slice Ac nc cc, .int .i64 sh, .int .i64 hg, .bool bl] 65)).cell? ⟨wr.heap.size, 3, none⟩ = some (.int .i64 hg) := by simp [go_sem]
      have f1 := KA.cell c1
      clear hri
      cases p1 : nameOk nm
      · have HF : Hid (R = false) := Lib.hid (by rw [HR.out]; exact allN_no (k := k) (by have := HNt.out; omega) (by rw [terF_at HX.out]; simp only [terAt, p1]; rfl))
        go_wp2_with fail
        refine (rName_any _ _ hnb).mono ?_; rintro e3 w3 ⟨rfl, rfl⟩
        go_wp2_with fail
        go_ret
        exact ⟨ret_bool (by rw [HF.out]; rfl), s0.2.2.2.2.2.2.2.trans (kr.trans KA)⟩
      · skip
        cases p2 : decide (idxS (tNames l) nm = (k : Int))
        · have HF : Hid (R = false) := Lib.hid (by rw [HR.out]; exact allN_no (k := k) (by have := HNt.out; omega) (by rw [terF_at HX.out]; simp only [terAt, p1, p2]; rfl))
          have q2 : (idxS (tNames l) nm != (k : Int)) = true := by simpa using p2
          go_wp2_with fail
          refine (rName_any _ _ hnb).mono ?_; rintro e3 w3 ⟨rfl, rfl⟩
          go_wp2_with fail
          refine (rTerrain_any _ _ _ l _ _ (HL.out.keep (K0.trans KA)).rt hb1).mono ?_; rintro e4 w4 ⟨rfl, k4⟩
          have t1 := k4.cell g1; have t2 := k4.cell g2; have t3 := k4.cell g3; have d1 := k4.cell f1
          have HR4 := Lib.hid (HRI.out.keep k4)
          go_wp2_with fail
          go_ret
          exact ⟨ret_bool (by rw [HF.out]; rfl), s0.2.2.2.2.2.2.2.trans ((kr.trans KA).trans k4)⟩
        · have q2 : (idxS (tNames l) nm != (k : Int)) = false := by simpa using p2
          cases p3 : decide (cs.length = nk)
          · have HF : Hid (R = false) := Lib.hid (by rw [HR.out]; exact allN_no (k := k) (by have := HNt.out; omega) (by rw [terF_at HX.out]; simp only [terAt, p1, p2, p3]; rfl))
            have q3 : ((nc : Int) != (nk : Int)) = true := by have := HNC2.out; simp at p3; simp; omega
            have q3' : (nc != nk) = true := by have := HNC2.out; simp at p3; simp; omega
            go_wp2_with fail
            refine (rName_any _ _ hnb).mono ?_; rintro e3 w3 ⟨rfl, rfl⟩
            go_wp2_with fail
            refine (rTerrain_any _ _ _ l _ _ (HL.out.keep (K0.trans KA)).rt hb1).mono ?_; rintro e4 w4 ⟨rfl, k4⟩
            have t1 := k4.cell g1; have t2 := k4.cell g2; have t3 := k4.cell g3; have d1 := k4.cell f1
            have HR4 := Lib.hid (HRI.out.keep k4)
            go_wp2_with fail
            go_ret
            exact ⟨ret_bool (by rw [HF.out]; rfl), s0.2.2.2.2.2.2.2.trans ((kr.trans KA).trans k4)⟩
          · have q3 : ((nc : Int) != (nk : Int)) = false := by have := HNC2.out; simp at p3; simp; omega
            have q3' : (nc != nk) = false := by have := HNC2.out; simp at p3; simp; omega
            cases p4 : cs.all (spB 0 9)
            · have HF : Hid (R = false) := Lib.hid (by rw [HR.out]; exact allN_no (k := k) (by have := HNt.out; omega) (by rw [terF_at HX.out]; simp only [terAt, p1, p2, p3, p4]; rfl))
              go_wp2_with fail
              refine (rName_any _ _ hnb).mono ?_; rintro e3 w3 ⟨rfl, rfl⟩
              go_wp2_with fail
              refine (rTerrain_any _ _ _ l _ _ (HL.out.keep (K0.trans KA)).rt hb1).mono ?_; rintro e4 w4 ⟨rfl, k4⟩
              have t1 := k4.cell g1; have t2 := k4.cell g2; have t3 := k4.cell g3; have d1 := k4.cell f1
              have HR4 := Lib.hid (HRI.out.keep k4)
              go_wp2_with fail
              refine (l1All_sp _ cs _ _ _ HR4.out hcb2).mono ?_; rintro e5 w5 ⟨rfl, rfl⟩
              rw [p4]
              go_wp2_with fail
              go_ret
              exact ⟨ret_bool (by rw [HF.out]; rfl), s0.2.2.2.2.2.2.2.trans ((kr.trans KA).trans k4)⟩
            · skip
              cases p5 : spB (-3) 3 sh
              · have HF : Hid (R = false) := Lib.hid (by rw [HR.out]; exact allN_no (k := k) (by have := HNt.out; omega) (by rw [terF_at HX.out]; simp only [terAt, p1, p2, p3, p4, p5]; rfl))
                go_wp2_with fail
                refine (rName_any _ _ hnb).mono ?_; rintro e3 w3 ⟨rfl, rfl⟩
                go_wp2_with fail
                refine (rTerrain_any _ _ _ l _ _ (HL.out.keep (K0.trans KA)).rt hb1).mono ?_; rintro e4 w4 ⟨rfl, k4⟩
                have t1 := k4.cell g1; have t2 := k4.cell g2; have t3 := k4.cell g3; have d1 := k4.cell f1
                have HR4 := Lib.hid (HRI.out.keep k4)
                go_wp2_with fail
                refine (l1All_sp _ cs _ _ _ HR4.out hcb2).mono ?_; rintro e5 w5 ⟨rfl, rfl⟩
                rw [p4]
                go_wp2_with fail
                refine (l1In_sp _ _ _ _).mono ?_; rintro e6 w6 ⟨rfl, rfl⟩
                go_wp2_with fail
                go_ret
                exact ⟨ret_bool (by rw [HF.out]; rfl), s0.2.2.2.2.2.2.2.trans ((kr.trans KA).trans k4)⟩
              · skip
                cases p6 : spB 0 3 hg
                · have HF : Hid (R = false) := Lib.hid (by rw [HR.out]; exact allN_no (k := k) (by have := HNt.out; omega) (by rw [terF_at HX.out]; simp only [terAt, p1, p2, p3, p4, p5, p6]; rfl))
                  go_wp2_with fail
                  refine (rName_any _ _ hnb).mono ?_; rintro e3 w3 ⟨rfl, rfl⟩
                  go_wp2_with fail
                  refine (rTerrain_any _ _ _ l _ _ (HL.out.keep (K0.trans KA)).rt hb1).mono ?_; rintro e4 w4 ⟨rfl, k4⟩
                  have t1 := k4.cell g1; have t2 := k4.cell g2; have t3 := k4.cell g3; have d1 := k4.cell f1
                  have HR4 := Lib.hid (HRI.out.keep k4)
                  go_wp2_with fail
                  refine (l1All_sp _ cs _ _ _ HR4.out hcb2).mono ?_; rintro e5 w5 ⟨rfl, rfl⟩
                  rw [p4]
                  go_wp2_with fail
                  refine (l1In_sp _ _ _ _).mono ?_; rintro e6 w6 ⟨rfl, rfl⟩
                  go_wp2_with fail
                  refine (l1In_sp _ _ _ _).mono ?_; rintro e7 w7 ⟨rfl, rfl⟩
                  go_wp2_with fail
                  go_ret
                  exact ⟨ret_bool (by rw [HF.out]; rfl), s0.2.2.2.2.2.2.2.trans ((kr.trans KA).trans k4)⟩
                · have HE2 := Lib.hid (upto_more (f := terF l nk) (by rw [terF_at HX.out]; simp only [terAt, p1, p2, p3, p4, p5, p6]; rfl) hE.out)
                  go_wp2_with fail
                  refine (rName_any _ _ hnb).mono ?_; rintro e3 w3 ⟨rfl, rfl⟩
                  go_wp2_with fail
                  refine (rTerrain_any _ _ _ l _ _ (HL.out.keep (K0.trans KA)).rt hb1).mono ?_; rintro e4 w4 ⟨rfl, k4⟩
                  have t1 := k4.cell g1; have t2 := k4.cell g2; have t3 := k4.cell g3; have d1 := k4.cell f1
                  have HR4 := Lib.hid (HRI.out.keep k4)
                  go_wp2_with fail
                  refine (l1All_sp _ cs _ _ _ HR4.out hcb2).mono ?_; rintro e5 w5 ⟨rfl, rfl⟩
                  rw [p4]
                  go_wp2_with fail
                  refine (l1In_sp _ _ _ _).mono ?_; rintro e6 w6 ⟨rfl, rfl⟩
                  go_wp2_with fail
                  refine (l1In_sp _ _ _ _).mono ?_; rintro e7 w7 ⟨rfl, rfl⟩
                  go_wp2_with fail
                  go_roundw
                  case rel => exact ⟨k + 1, by omega, by go_num, HE2, (kr.trans KA).trans k4⟩
                  case measure => simp [intOf]; omega
    · obtain rfl : k = nt := by omega
      have HR1 : Hid (R = true) := Lib.hid (by rw [HR.out]; exact allN_mk hE.out)
      have c1 := kr.cell s0.2.1
      go_wp2_with fail
      go_loopw [5, 6, 71] (fun _ _ i wx => ∃ j : Nat, j ≤ nk ∧ i = .int .i64 j ∧ Hid (∀ i, i < j → kndF m i = true) ∧ Kp W0 wx) (fun _ _ i _ => nk - (intOf i).toNat)
      case atStart => exact ⟨0, by omega, rfl, Lib.hid fun j hj => absurd hj (by omega), kr⟩
      case round =>
        clear c1 K0 kr hE
        obtain ⟨j, hj, rfl, hE, kr⟩ := hrel
        have K0 : Kp w wr := s0.2.2.2.2.2.2.2.trans kr
        by_cases hlt : j < nk
        · have hlt' : (j : Int) < nk := by omega
          obtain ⟨g, off, rfl, hc⟩ := HAk.out (by omega)
          obtain ⟨x, hx⟩ : ∃ x, m[j]? = some x := ⟨m[j]'(by have := HNk.out; omega), List.getElem?_eq_getElem _⟩
          obtain ⟨a0, a1, a2, a3, a4, a5⟩ := (hc j x hx).keep K0
          have HX := Lib.hid hx
          have hnb := HL.out.bn x (List.mem_of_getElem? hx)
          obtain ⟨nm, ks, km, kt, kz, kw⟩ := x
          simp only at a0 a1 a2 a3 a4 a5 hnb
          have c1 := kr.cell s0.2.1
          have hz := cell_lt c1
          clear hc hx
          have KA : Kp wr (wr.alloc (.cells #[.string nm, .int .i64 ks, .int .i64 km, .int .i64 kt, .bool kz, .int .i64 kw] 76)) := (Kp.refl wr).alloc _
          have g1 : (wr.alloc (.cells #[.string nm, .int .i64 ks, .int .i64 km, .int .i64 kt, .bool kz, .int .i64 kw] 76)).cell? ⟨wr.heap.size, 1, none⟩ = some (.int .i64 ks) := by simp [go_sem]
          have g2 : (wr.alloc (.cells #[.string nm, .int .i64 ks, .int .i64 km, .int .i64 kt, .bool kz, .int .i64 kw] 76)).cell? ⟨wr.heap.size, 2, none⟩ = some (.int .i64 km) := by simp [go_sem]
          have g3 : (wr.alloc (.cells #[.string nm, .int .i64 ks, .int .i64 km, .int .i64 kt, .bool kz, .int .i64 kw] 76)).cell? ⟨wr.heap.size, 3, none⟩ = some (.int .i64 kt) := by simp [go_sem]
          have g5 : (wr.alloc (.cells #[.string nm, .int .i64 ks, .int .i64 km, .int .i64 kt, .bool kz, .int .i64 kw] 76)).cell? ⟨wr.heap.size, 5, none⟩ = some (.int .i64 kw) := by simp [go_sem]
          cases p1 : nameOk nm
          · have HF : Hid (Q = false) := Lib.hid (by rw [HQ.out]; exact allN_no (k := j) (by have := HNk.out; omega) (by rw [kndF_at HX.out]; simp only [kndAt, p1]; rfl))
            go_wp2_with fail
            refine (rName_any _ _ hnb).mono ?_; rintro e3 w3 ⟨rfl, rfl⟩
            go_wp2_with fail
            go_ret
            exact ⟨ret_bool (by rw [HR1.out, HF.out]; rfl), s0.2.2.2.2.2.2.2.trans (kr.trans KA)⟩
          · skip
            cases p2 : decide (idxS (kNames m) nm = (j : Int))
            · have HF : Hid (Q = false) := Lib.hid (by rw [HQ.out]; exact allN_no (k := j) (by have := HNk.out; omega) (by rw [kndF_at HX.out]; simp only [kndAt, p1, p2]; rfl))
              have q2 : (idxS (kNames m) nm != (j : Int)) = true := by simpa using p2
              go_wp2_with fail
              refine (rName_any _ _ hnb).mono ?_; rintro e3 w3 ⟨rfl, rfl⟩
              go_wp2_with fail
              refine (rKind_any _ _ _ m _ _ (HL.out.keep (K0.trans KA)).rk hb2).mono ?_; rintro e4 w4 ⟨rfl, k4⟩
              have t1 := k4.cell g1; have t2 := k4.cell g2; have t3 := k4.cell g3; have t5 := k4.cell g5
              go_wp2_with fail
              go_ret
              exact ⟨ret_bool (by rw [HR1.out, HF.out]; rfl), s0.2.2.2.2.2.2.2.trans ((kr.trans KA).trans k4)⟩
            · have q2 : (idxS (kNames m) nm != (j : Int)) = false := by simpa using p2
              cases p3 : spB 1 9 ks
              · have HF : Hid (Q = false) := Lib.hid (by rw [HQ.out]; exact allN_no (k := j) (by have := HNk.out; omega) (by rw [kndF_at HX.out]; simp only [kndAt, p1, p2, p3]; rfl))
                go_wp2_with fail
                refine (rName_any _ _ hnb).mono ?_; rintro e3 w3 ⟨rfl, rfl⟩
                go_wp2_with fail
                refine (rKind_any _ _ _ m _ _ (HL.out.keep (K0.trans KA)).rk hb2).mono ?_; rintro e4 w4 ⟨rfl, k4⟩
                have t1 := k4.cell g1; have t2 := k4.cell g2; have t3 := k4.cell g3; have t5 := k4.cell g5
                go_wp2_with fail
                refine (l1In_sp _ _ _ _).mono ?_; rintro e6 w6 ⟨rfl, rfl⟩
                go_wp2_with fail
                go_ret
                exact ⟨ret_bool (by rw [HR1.out, HF.out]; rfl), s0.2.2.2.2.2.2.2.trans ((kr.trans KA).trans k4)⟩
              · skip
                cases p4 : spB 0 9 km
                · have HF : Hid (Q = false) := Lib.hid (by rw [HQ.out]; exact allN_no (k := j) (by have := HNk.out; omega) (by rw [kndF_at HX.out]; simp only [kndAt, p1, p2, p3, p4]; rfl))
                  go_wp2_with fail
                  refine (rName_any _ _ hnb).mono ?_; rintro e3 w3 ⟨rfl, rfl⟩
                  go_wp2_with fail
                  refine (rKind_any _ _ _ m _ _ (HL.out.keep (K0.trans KA)).rk hb2).mono ?_; rintro e4 w4 ⟨rfl, k4⟩
                  have t1 := k4.cell g1; have t2 := k4.cell g2; have t3 := k4.cell g3; have t5 := k4.cell g5
                  go_wp2_with fail
                  refine (l1In_sp _ _ _ _).mono ?_; rintro e6 w6 ⟨rfl, rfl⟩
                  go_wp2_with fail
                  refine (l1In_sp _ _ _ _).mono ?_; rintro e7 w7 ⟨rfl, rfl⟩
                  go_wp2_with fail
                  go_ret
                  exact ⟨ret_bool (by rw [HR1.out, HF.out]; rfl), s0.2.2.2.2.2.2.2.trans ((kr.trans KA).trans k4)⟩
                · skip
                  cases p5 : spB 1 4 kt
                  · have HF : Hid (Q = false) := Lib.hid (by rw [HQ.out]; exact allN_no (k := j) (by have := HNk.out; omega) (by rw [kndF_at HX.out]; simp only [kndAt, p1, p2, p3, p4, p5]; rfl))
                    go_wp2_with fail
                    refine (rName_any _ _ hnb).mono ?_; rintro e3 w3 ⟨rfl, rfl⟩
                    go_wp2_with fail
                    refine (rKind_any _ _ _ m _ _ (HL.out.keep (K0.trans KA)).rk hb2).mono ?_; rintro e4 w4 ⟨rfl, k4⟩
                    have t1 := k4.cell g1; have t2 := k4.cell g2; have t3 := k4.cell g3; have t5 := k4.cell g5
                    go_wp2_with fail
                    refine (l1In_sp _ _ _ _).mono ?_; rintro e6 w6 ⟨rfl, rfl⟩
                    go_wp2_with fail
                    refine (l1In_sp _ _ _ _).mono ?_; rintro e7 w7 ⟨rfl, rfl⟩
                    go_wp2_with fail
                    refine (l1In_sp _ _ _ _).mono ?_; rintro e8 w8 ⟨rfl, rfl⟩
                    go_wp2_with fail
                    go_ret
                    exact ⟨ret_bool (by rw [HR1.out, HF.out]; rfl), s0.2.2.2.2.2.2.2.trans ((kr.trans KA).trans k4)⟩
                  · skip
                    cases p6 : spB 0 4 kw
                    · have HF : Hid (Q = false) := Lib.hid (by rw [HQ.out]; exact allN_no (k := j) (by have := HNk.out; omega) (by rw [kndF_at HX.out]; simp only [kndAt, p1, p2, p3, p4, p5, p6]; rfl))
                      go_wp2_with fail
                      refine (rName_any _ _ hnb).mono ?_; rintro e3 w3 ⟨rfl, rfl⟩
                      go_wp2_with fail
                      refine (rKind_any _ _ _ m _ _ (HL.out.keep (K0.trans KA)).rk hb2).mono ?_; rintro e4 w4 ⟨rfl, k4⟩
                      have t1 := k4.cell g1; have t2 := k4.cell g2; have t3 := k4.cell g3; have t5 := k4.cell g5
                      go_wp2_with fail
                      refine (l1In_sp _ _ _ _).mono ?_; rintro e6 w6 ⟨rfl, rfl⟩
                      go_wp2_with fail
                      refine (l1In_sp _ _ _ _).mono ?_; rintro e7 w7 ⟨rfl, rfl⟩
                      go_wp2_with fail
                      refine (l1In_sp _ _ _ _).mono ?_; rintro e8 w8 ⟨rfl, rfl⟩
                      go_wp2_with fail
                      refine (l1In_sp _ _ _ _).mono ?_; rintro e9 w9 ⟨rfl, rfl⟩
                      go_wp2_with fail
                      go_ret
                      exact ⟨ret_bool (by rw [HR1.out, HF.out]; rfl), s0.2.2.2.2.2.2.2.trans ((kr.trans KA).trans k4)⟩
                    · have HE2 := Lib.hid (upto_more (f := kndF m) (by rw [kndF_at HX.out]; simp only [kndAt, p1, p2, p3, p4, p5, p6]; rfl) hE.out)
                      go_wp2_with fail
                      refine (rName_any _ _ hnb).mono ?_; rintro e3 w3 ⟨rfl, rfl⟩
                      go_wp2_with fail
                      refine (rKind_any _ _ _ m _ _ (HL.out.keep (K0.trans KA)).rk hb2).mono ?_; rintro e4 w4 ⟨rfl, k4⟩
                      have t1 := k4.cell g1; have t2 := k4.cell g2; have t3 := k4.cell g3; have t5 := k4.cell g5
                      go_wp2_with fail
                      refine (l1In_sp _ _ _ _).mono ?_; rintro e6 w6 ⟨rfl, rfl⟩
                      go_wp2_with fail
                      refine (l1In_sp _ _ _ _).mono ?_; rintro e7 w7 ⟨rfl, rfl⟩
                      go_wp2_with fail
                      refine (l1In_sp _ _ _ _).mono ?_; rintro e8 w8 ⟨rfl, rfl⟩
                      go_wp2_with fail
                      refine (l1In_sp _ _ _ _).mono ?_; rintro e9 w9 ⟨rfl, rfl⟩
                      go_wp2_with fail
                      go_roundw
                      case rel => exact ⟨j + 1, by omega, by go_num, HE2, (kr.trans KA).trans k4⟩
                      case measure => simp [intOf]; omega
        · obtain rfl : j = nk := by omega
          have HQ1 : Hid (Q = true) := Lib.hid (by rw [HQ.out]; exact allN_mk hE.out)
          have c2 := kr.cell s0.2.2.1
          have c3 := kr.cell s0.2.2.2.1
          have c4 := kr.cell s0.2.2.2.2.1
          have c5 := kr.cell s0.2.2.2.2.2.1
          have c6 := kr.cell s0.2.2.2.2.2.2.1
          cases h5 : spB 1 4 a
          · go_wp2_with fail
            refine (l1In_sp _ _ _ _).mono ?_; rintro e3 w3 ⟨rfl, rfl⟩
            go_wp2_with fail
            go_ret
            exact ⟨ret_bool (by rw [HR1.out, HQ1.out]; simp only [limB, h5]; rfl), K0⟩
          · skip
            cases h6 : spB 0 9 b
            · go_wp2_with fail
              refine (l1In_sp _ _ _ _).mono ?_; rintro e3 w3 ⟨rfl, rfl⟩
              go_wp2_with fail
              refine (l1In_sp _ _ _ _).mono ?_; rintro e4 w4 ⟨rfl, rfl⟩
              go_wp2_with fail
              go_ret
              exact ⟨ret_bool (by rw [HR1.out, HQ1.out]; simp only [limB, h5, h6]; rfl), K0⟩
            · skip
              cases h7 : spB 1 9 c
              · go_wp2_with fail
                refine (l1In_sp _ _ _ _).mono ?_; rintro e3 w3 ⟨rfl, rfl⟩
                go_wp2_with fail
                refine (l1In_sp _ _ _ _).mono ?_; rintro e4 w4 ⟨rfl, rfl⟩
                go_wp2_with fail
                refine (l1In_sp _ _ _ _).mono ?_; rintro e5 w5 ⟨rfl, rfl⟩
                go_wp2_with fail
                go_ret
                exact ⟨ret_bool (by rw [HR1.out, HQ1.out]; simp only [limB, h5, h6, h7]; rfl), K0⟩
              · skip
                cases h8 : spB 0 20 d
                · go_wp2_with fail
                  refine (l1In_sp _ _ _ _).mono ?_; rintro e3 w3 ⟨rfl, rfl⟩
                  go_wp2_with fail
                  refine (l1In_sp _ _ _ _).mono ?_; rintro e4 w4 ⟨rfl, rfl⟩
                  go_wp2_with fail
                  refine (l1In_sp _ _ _ _).mono ?_; rintro e5 w5 ⟨rfl, rfl⟩
                  go_wp2_with fail
                  refine (l1In_sp _ _ _ _).mono ?_; rintro e6 w6 ⟨rfl, rfl⟩
                  go_wp2_with fail
                  go_ret
                  exact ⟨ret_bool (by rw [HR1.out, HQ1.out]; simp only [limB, h5, h6, h7, h8]; rfl), K0⟩
                · go_wp2_with fail
                  refine (l1In_sp _ _ _ _).mono ?_; rintro e3 w3 ⟨rfl, rfl⟩
                  go_wp2_with fail
                  refine (l1In_sp _ _ _ _).mono ?_; rintro e4 w4 ⟨rfl, rfl⟩
                  go_wp2_with fail
                  refine (l1In_sp _ _ _ _).mono ?_; rintro e5 w5 ⟨rfl, rfl⟩
                  go_wp2_with fail
                  refine (l1In_sp _ _ _ _).mono ?_; rintro e6 w6 ⟨rfl, rfl⟩
                  go_wp2_with fail
                  refine (l1In_sp _ _ _ _).mono ?_; rintro e7 w7 ⟨rfl, rfl⟩
                  go_wp2_with fail
                  go_ret
                  exact ⟨ret_bool (by rw [HR1.out, HQ1.out]; simp only [limB, h5, h6, h7, h8]; rfl), K0⟩

theorem rGood_any (At Ak : Option Addr) (nt nk ct ck : Nat) (l : List Ter) (m : List Knd) (a b c d e : Int) (w : World) (h : RulAt w At Ak nt nk l m) :
    Calls Tryz.prog 30 #[rv (.slice At nt ct) (.slice Ak nk ck) a b c d e] w fun e' w' => e' = .returned (.bool (rulOk ⟨l, m, a, b, c, d, e⟩)) ∧ Kp w w' := by
  rw [← rulS_eq]
  unfold rulS
  simp only [h.rt.1, h.rk.1]
  cases h1 : spB 1 6 nt
  · exact rGood_no1 At Ak nt nk ct ck l m a b c d e w h h1
  · cases h2 : spB 1 4 nk
    · exact rGood_no2 At Ak nt nk ct ck l m a b c d e w h h1 h2
    · exact rGood_yes At Ak nt nk ct ck l m a b c d e w h h1 h2

end Go.Proofs.YtmolpkjdjkhnpaaGreatDoor

/-
  The program's functions on boards: missing terrains, the test of a board, the cost to enter a hex. Nothing that was there is changed. The named variables hold what the program's text lays.
-/
namespace Go.Proofs.YtmolpkjdjkhnpaaGreatDoor
open Go.RowKit

abbrev bv (t k : Value) (a b c d e W H : Int) (x r y : Value) : Value := .agg #[t, k, .int .i64 a, .int .i64 b, .int .i64 c, .int .i64 d, .int .i64 e, .int .i64 W, .int .i64 H, x, r, y]
/-- What a board is in memory. -/
structure BrdAt (w : World) (At Ak : Option Addr) (nt nk : Nat) (l : List Ter) (m : List Knd) (x r y : Value) (lt lr ld : List Int) : Prop where
  R : RulAt w At Ak nt nk l m
  L : Lists w x r y lt lr ld
theorem BrdAt.keep {w w' : World} {At Ak : Option Addr} {nt nk : Nat} {l : List Ter} {m : List Knd} {x r y : Value} {lt lr ld : List Int} (h : BrdAt w At Ak nt nk l m x r y lt lr ld) (k : Kp w w') : BrdAt w' At Ak nt nk l m x r y lt lr ld :=
  ⟨h.R.keep k, h.L.keep k⟩

theorem misL_none {lt : List Int} {nt : Nat} : filN (misB lt nt) nt = [] := by
  rw [List.eq_nil_iff_forall_not_mem]
  intro z hz
  obtain ⟨j, hj, _, hm⟩ := (filN_mem _ _ _).1 hz
  simp only [misB, Bool.and_eq_true, decide_eq_true_iff] at hm
  omega
theorem rulOk_nt {l : List Ter} {m : List Knd} {a b c d e : Int} (h : rulOk ⟨l, m, a, b, c, d, e⟩ = true) : (1 ≤ l.length ∧ l.length ≤ 6) ∧ (1 ≤ m.length ∧ m.length ≤ 4) := by
  simp only [rulOk, spB, Bool.and_eq_true, decide_eq_true_iff] at h
  omega

set_option maxRecDepth 100000 in
set_option maxHeartbeats 4000000 in
theorem missing_any (At Ak : Option Addr) (nt nk ct ck : Nat) (l : List Ter) (m : List Knd) (a b c d e W H : Int) (x r y : Value) (lt lr ld : List Int) (w : World) (hs : Spans w) (ht : Tab w) (hB : BrdAt w At Ak nt nk l m x r y lt lr ld) :
    Calls Tryz.prog 40 #[rv (.slice At nt ct) (.slice Ak nk ck) a b c d e, mp W H x r y] w (ListPostI (rulOk ⟨l, m, a, b, c, d, e⟩ && mapOk W H lt lr ld) (misL lt nt) w) := by
  have KA : Kp w ((w.alloc (.cells #[.slice At nt ct, .slice Ak nk ck, .int .i64 a, .int .i64 b, .int .i64 c, .int .i64 d, .int .i64 e] 35)).alloc (.cells #[.int .i64 W, .int .i64 H, x, r, y] 36)) := ((Kp.refl w).alloc _).alloc _
  have HB := Lib.hid hB
  have C1 := Lib.hid (isRules_any At Ak nt nk ct ck l m a b c d e _ (hs.keep KA) (hB.R.keep KA))
  have s0 : ((w.alloc (.cells #[.slice At nt ct, .slice Ak nk ck, .int .i64 a, .int .i64 b, .int .i64 c, .int .i64 d, .int .i64 e] 35)).alloc (.cells #[.int .i64 W, .int .i64 H, x, r, y] 36)).cell? ⟨w.heap.size + 1, 0, none⟩ = some (.int .i64 W) ∧ ((w.alloc (.cells #[.slice At nt ct, .slice Ak nk ck, .int .i64 a, .int .i64 b, .int .i64 c, .int .i64 d, .int .i64 e] 35)).alloc (.cells #[.int .i64 W, .int .i64 H, x, r, y] 36)).cell? ⟨w.heap.size + 1, 1, none⟩ = some (.int .i64 H) ∧ ((w.alloc (.cells #[.slice At nt ct, .slice Ak nk ck, .int .i64 a, .int .i64 b, .int .i64 c, .int .i64 d, .int .i64 e] 35)).alloc (.cells #[.int .i64 W, .int .i64 H, x, r, y] 36)).cell? ⟨w.heap.size + 1, 2, none⟩ = some (x) ∧ ((w.alloc (.cells #[.slice At nt ct, .slice Ak nk ck, .int .i64 a, .int .i64 b, .int .i64 c, .int .i64 d, .int .i64 e] 35)).alloc (.cells #[.int .i64 W, .int .i64 H, x, r, y] 36)).cell? ⟨w.heap.size + 1, 3, none⟩ = some (r) ∧ ((w.alloc (.cells #[.slice At nt ct, .slice Ak nk ck, .int .i64 a, .int .i64 b, .int .i64 c, .int .i64 d, .int .i64 e] 35)).alloc (.cells #[.int .i64 W, .int .i64 H, x, r, y] 36)).cell? ⟨w.heap.size + 1, 4, none⟩ = some (y) := ⟨by simp [go_sem], by simp [go_sem], by simp [go_sem], by simp [go_sem], by simp [go_sem]⟩
  have r0 : ((w.alloc (.cells #[.slice At nt ct, .slice Ak nk ck, .int .i64 a, .int .i64 b, .int .i64 c, .int .i64 d, .int .i64 e] 35)).alloc (.cells #[.int .i64 W, .int .i64 H, x, r, y] 36)).cell? ⟨w.heap.size, 0, none⟩ = some (.slice At nt ct) := by simp [go_sem]
  cases hr : rulOk ⟨l, m, a, b, c, d, e⟩
  · rw [hr] at C1
    clear hs ht hB hr
    go_enter Tryz.func40, Tryz.ntmps40
    go_wp2_with fail
    refine C1.out.mono ?_
    rintro e1 w1 ⟨rfl, k1⟩
    go_wp2_with fail
    go_ret2
    exact ListPostI.no (KA.trans k1)
  · rw [hr] at C1
    have hn6 : nt ≤ 6 := by have := (rulOk_nt hr).1.2; have := hB.R.rt.1; omega
    have HT := Lib.hid ht
    have CM : Hid (∀ w, Tab w → Lists w x r y lt lr ld → Calls Tryz.prog 41 #[mp W H x r y] w fun e w' => e = .returned (.bool (mapOk W H lt lr ld)) ∧ Kp w w') := Lib.hid fun w k h => isMap_any W H x r y lt lr ld w k h
    cases hm : mapOk W H lt lr ld
    · rw [hm] at CM
      clear hs ht hB hr hm
      go_enter Tryz.func40, Tryz.ntmps40
      go_wp2_with fail
      refine C1.out.mono ?_
      rintro e1 w1 ⟨rfl, k1⟩
      have s1 := keepc5 k1 s0
      have K1 : Kp w w1 := KA.trans k1
      clear s0 k1
      go_wp2_with fail
      refine (CM.out _ (HT.out.keep K1) (HB.out.keep K1).L).mono ?_
      rintro e2 w2 ⟨rfl, k2⟩
      go_wp2_with fail
      go_ret2
      exact ListPostI.no (K1.trans k2)
    · rw [hm] at CM
      clear hs ht hB hr hm
      obtain ⟨j0, hj0, hz0, hs0, hb0⟩ := info_parts infoInt
      go_enter Tryz.func40, Tryz.ntmps40
      go_wp2_with fail
      refine C1.out.mono ?_
      rintro e1 w1 ⟨rfl, k1⟩
      have s1 := keepc5 k1 s0
      have r1 := k1.cell r0
      have K1 : Kp w w1 := KA.trans k1
      clear s0 k1 r0
      go_wp2_with fail
      refine (CM.out _ (HT.out.keep K1) (HB.out.keep K1).L).mono ?_
      rintro e2 w2 ⟨rfl, k2⟩
      have x2 := k2.cell s1.2.2.1
      have r2 := k2.cell r1
      have K2 : Kp w w2 := K1.trans k2
      have hz2 := cell_lt x2
      clear s1 k2 K1 r1
      go_wp2_with fail
      go_loopw [6, 7] (fun v s7 wx => ∃ k : Nat, nt ≤ k ∧ k ≤ 6 ∧ s7 = .int .i64 k ∧ OwnI wx (w.heap.size + 2) v (filN (misB lt nt) k) ∧ wx.cell? ⟨w.heap.size + 1, 2, none⟩ = some x ∧ Kp w wx) (fun _ s7 _ => 6 - (intOf s7).toNat)
      case atStart => exact ⟨nt, by omega, hn6, rfl, by rw [misL_none]; exact OwnI.nil _ _, x2, K2⟩
      case round =>
        clear x2 K2 hz2
        obtain ⟨k, hnk, hk6, rfl, hoR, xr, kr⟩ := hrel
        by_cases hlt : k < 6
        · have hlt' : (k : Int) < 6 := by omega
          have HO := Lib.hid hoR
          have bz := cell_lt xr
          have HX := Lib.hid (HB.out.keep kr).L
          clear hoR
          cases hh : hasB lt (k : Int)
          · have HS : Hid (filN (misB lt nt) (k + 1) = filN (misB lt nt) k) := Lib.hid (filN_no (by unfold misB; rw [hh, Bool.and_false]))
            go_wp2_with fail
            refine (contains_any _ lt _ _ HX.out.rt HX.out.bt).mono ?_
            rintro e3 w3 ⟨rfl, rfl⟩
            rw [hh]
            go_wp2_with fail
            go_roundw
            case rel => exact ⟨k + 1, by omega, by omega, by go_num, by rw [HS.out]; exact HO.out, xr, kr⟩
            case measure => simp [intOf]; omega
          · have HS : Hid (filN (misB lt nt) (k + 1) = filN (misB lt nt) k ++ [(k : Int)]) := Lib.hid (filN_yes (by unfold misB; rw [hh, Bool.and_true]; exact decide_eq_true hnk))
            have hln := Lib.hid (filN_len (misB lt nt) k)
            have n1 := Lib.hid (HO.out.not (g := w.heap.size + 1) (by omega))
            go_wp2_with fail
            refine (contains_any _ lt _ _ HX.out.rt HX.out.bt).mono ?_
            rintro e3 w3 ⟨rfl, rfl⟩
            rw [hh]
            go_wp2_with (at_builtin; refine wpList_append_own_at _ rfl (.tmp 27) (.tmp 29) 26 rfl (w.heap.size + 2) 3 j0 (.int .i64 0) 1 8 Tryz.underlying26 hj0 hz0 hs0 hb0 rfl (by decide) _ (filN (misB lt nt) k).length (cellsI (filN (misB lt nt) k)) rfl (World.ownsRow.alloc HO.out _) ⟨wr.heap.size, 0, none⟩ 1 1 [.int .i64 k] rfl rfl (one_cell _ _ _) (by simp [Value.oneCell']) (by have := hln.out; simp only [maxLen]; omega) (by have := hln.out; omega) (by simp; omega) ?_; intro v' w3 hown2 hgrow2 hnil2 hat2; clear hnil2 hat2; have x5 := hgrow2.cell (((Kp.refl wr).alloc (.cells #[.int .i64 (k : Int)] 3)).cell xr) (fun e => n1.out e.symm); have K5 : Kp w w3 := (kr.alloc _).grown hgrow2 (fun k e => by have := (World.ownsRow.lt HO.out k e).1; omega); have O3 := Lib.hid (OwnI.snoc (x := k) hown2); clear hown2 hgrow2)
            go_roundw
            case rel => exact ⟨k + 1, by omega, by omega, by go_num, by rw [HS.out]; exact O3.out, x5, K5⟩
            case measure => simp [intOf]; omega
        · obtain rfl : k = 6 := by omega
          go_wp2_with fail
          go_ret2
          exact ⟨_, rfl, hoR.base (by omega), kr⟩

theorem keepb12 {w w1 : World} {p0 p1 p2 p3 p4 p5 p6 p7 p8 p9 p10 p11 : Addr} {v0 v1 v2 v3 v4 v5 v6 v7 v8 v9 v10 v11 : Value} (k : Kp w w1) (h : w.cell? p0 = some v0 ∧ w.cell? p1 = some v1 ∧ w.cell? p2 = some v2 ∧ w.cell? p3 = some v3 ∧ w.cell? p4 = some v4 ∧ w.cell? p5 = some v5 ∧ w.cell? p6 = some v6 ∧ w.cell? p7 = some v7 ∧ w.cell? p8 = some v8 ∧ w.cell? p9 = some v9 ∧ w.cell? p10 = some v10 ∧ w.cell? p11 = some v11) : w1.cell? p0 = some v0 ∧ w1.cell? p1 = some v1 ∧ w1.cell? p2 = some v2 ∧ w1.cell? p3 = some v3 ∧ w1.cell? p4 = some v4 ∧ w1.cell? p5 = some v5 ∧ w1.cell? p6 = some v6 ∧ w1.cell? p7 = some v7 ∧ w1.cell? p8 = some v8 ∧ w1.cell? p9 = some v9 ∧ w1.cell? p10 = some v10 ∧ w1.cell? p11 = some v11 :=
  ⟨k.cell h.1, k.cell h.2.1, k.cell h.2.2.1, k.cell h.2.2.2.1, k.cell h.2.2.2.2.1, k.cell h.2.2.2.2.2.1, k.cell h.2.2.2.2.2.2.1, k.cell h.2.2.2.2.2.2.2.1, k.cell h.2.2.2.2.2.2.2.2.1, k.cell h.2.2.2.2.2.2.2.2.2.1, k.cell h.2.2.2.2.2.2.2.2.2.2.1, k.cell h.2.2.2.2.2.2.2.2.2.2.2⟩

theorem brdOk_eq (l : List Ter) (m : List Knd) (a b c d e W H : Int) (lt lr ld : List Int) (nt : Nat) (hl : l.length = nt) : (((rulOk ⟨l, m, a, b, c, d, e⟩ && mapOk W H lt lr ld) && decide (misL lt nt = []))) = brdOk ⟨l, m, a, b, c, d, e⟩ W H lt lr ld := by
  unfold brdOk
  cases hm : mapOk W H lt lr ld
  · simp
  · rw [misL_nil (mapOk_terr hm), hl]

set_option maxRecDepth 100000 in
set_option maxHeartbeats 4000000 in
theorem isBoard_any (At Ak : Option Addr) (nt nk ct ck : Nat) (l : List Ter) (m : List Knd) (a b c d e W H : Int) (x r y : Value) (lt lr ld : List Int) (w : World) (hs : Spans w) (ht : Tab w) (hB : BrdAt w At Ak nt nk l m x r y lt lr ld) :
    Calls Tryz.prog 18 #[bv (.slice At nt ct) (.slice Ak nk ck) a b c d e W H x r y] w fun e' w' => e' = .returned (.bool (brdOk ⟨l, m, a, b, c, d, e⟩ W H lt lr ld)) ∧ Kp w w' := by
  have KA : Kp w (w.alloc (.cells #[.slice At nt ct, .slice Ak nk ck, .int .i64 a, .int .i64 b, .int .i64 c, .int .i64 d, .int .i64 e, .int .i64 W, .int .i64 H, x, r, y] 38)) := (Kp.refl w).alloc _
  have C1 := Lib.hid (missing_any At Ak nt nk ct ck l m a b c d e W H x r y lt lr ld _ (hs.keep KA) (ht.keep KA) (hB.keep KA))
  have HE := Lib.hid (brdOk_eq l m a b c d e W H lt lr ld nt hB.R.rt.1)
  have hln : (misL lt nt).length ≤ 6 := filN_len _ _
  generalize (rulOk ⟨l, m, a, b, c, d, e⟩ && mapOk W H lt lr ld) = B at C1 HE
  generalize misL lt nt = L at C1 HE hln
  generalize brdOk ⟨l, m, a, b, c, d, e⟩ W H lt lr ld = R at HE
  unfold ListPostI at C1
  clear hs ht hB
  cases B
  · go_enter Tryz.func18, Tryz.ntmps18
    go_wp2_with fail
    refine C1.out.mono ?_
    rintro e1 w1 ⟨v, rfl, o1, k1⟩
    obtain ⟨A1, c1, rfl⟩ := o1.slice
    go_wp2_with fail
    go_ret
    exact ⟨ret_bool HE.out, KA.trans k1⟩
  · have HL : Hid ((if true = true then L else []).length = L.length) := Lib.hid (by simp)
    go_enter Tryz.func18, Tryz.ntmps18
    go_wp2_with fail
    refine C1.out.mono ?_
    rintro e1 w1 ⟨v, rfl, o1, k1⟩
    obtain ⟨A1, c1, rfl⟩ := o1.slice
    rw [HL.out]
    go_wp2_with fail
    go_ret
    refine ⟨ret_bool ?_, KA.trans k1⟩
    rw [← HE.out, Bool.true_and]
    cases L
    · rfl
    · simp
      omega

/-- A hex of a valid board: its terrain and what that costs a kind. -/
theorem brd_hex {l : List Ter} {m : List Knd} {a b c d e W H : Int} {lt lr ld : List Int} {k i : Nat} (h : brdOk ⟨l, m, a, b, c, d, e⟩ W H lt lr ld = true) (hk : k < m.length) (hi : i < lt.length) :
    ∃ (T : Nat) (t : Ter) (z : Int), lt[i]? = some (T : Int) ∧ T < l.length ∧ l[T]? = some t ∧ t.cost.length = m.length ∧ t.cost[k]? = some z ∧ costB l lt k i = z ∧ 0 ≤ z ∧ z ≤ 9 := by
  simp only [brdOk, rulOk, Bool.and_eq_true] at h
  obtain ⟨⟨⟨⟨hl1, _⟩, h1, _⟩, _⟩, h2⟩ := h
  have hx : lt[i]? = some (lt[i]'hi) := List.getElem?_eq_getElem _
  have h3 := List.all_eq_true.1 h2 _ (List.getElem_mem hi)
  simp only [spB, Bool.and_eq_true, decide_eq_true_iff] at h3
  obtain ⟨T, hT⟩ : ∃ T : Nat, lt[i]'hi = T := ⟨(lt[i]'hi).toNat, by omega⟩
  rw [hT] at hx h3
  have hTl : T < l.length := by omega
  have ht : l[T]? = some (l[T]'hTl) := List.getElem?_eq_getElem _
  have h4 := List.all_eq_true.1 h1 _ (List.getElem_mem hTl)
  simp only [numT, Bool.and_eq_true, decide_eq_true_iff] at h4
  have hkc : k < (l[T]'hTl).cost.length := by omega
  have hz : (l[T]'hTl).cost[k]? = some ((l[T]'hTl).cost[k]'hkc) := List.getElem?_eq_getElem _
  have h5 := List.all_eq_true.1 h4.2.1 _ (List.getElem_mem hkc)
  simp only [spB, Bool.and_eq_true, decide_eq_true_iff] at h5
  refine ⟨T, _, _, hx, hTl, ht, h4.1, hz, ?_, h5.1, h5.2⟩
  unfold costB costT
  rw [hx]
  simp [ht, hkc]

theorem brdOk_rul {r : Rul} {W H : Int} {lt lr ld : List Int} (h : brdOk r W H lt lr ld = true) : rulOk r = true := by
  simp only [brdOk, Bool.and_eq_true] at h
  exact h.1.1
/-- The terrain of a hex. -/
def terN (l : List Ter) (lt : List Int) (i : Nat) : Option Ter := l[(lt[i]?.getD 0).toNat]?

theorem fieldCost (nm : ByteArray) (A : Option Addr) (n c : Nat) (s h : Int) (b : Bool) (w : World) : (Instr.field 65 (tv nm A n c s h b) 1).run Tryz.prog w = .ok (.slice A n c) w := by kernel_rfl

end Go.Proofs.YtmolpkjdjkhnpaaGreatDoor

/-
  Boards: a kind and a place that are there, the cost to enter a hex, open hexes, unused terrains: the program's functions and the reference's. Nothing that was there is changed. The named variables hold what the program's text lays.
-/
namespace Go.Proofs.YtmolpkjdjkhnpaaGreatDoor
open Go.RowKit

theorem inB_at {n : Int} {h : Nat} (hh : inB n h = true) : ∃ k : Nat, n = k ∧ k < h := by
  simp only [inB, Bool.and_eq_true, decide_eq_true_iff] at hh
  exact ⟨n.toNat, by omega, by omega⟩
theorem onI_at {W H i : Int} {n : Nat} (hh : onI W H i = true) (hn : (n : Int) = W * H) : ∃ k : Nat, i = k ∧ k < n := by
  obtain ⟨h0, h1⟩ := onI_true hh
  exact ⟨i.toNat, by omega, by omega⟩
theorem brdOk_map {r : Rul} {W H : Int} {lt lr ld : List Int} (h : brdOk r W H lt lr ld = true) : mapOk W H lt lr ld = true := by
  simp only [brdOk, Bool.and_eq_true] at h
  exact h.1.2
theorem mapOk_len {W H : Int} {lt lr ld : List Int} (h : mapOk W H lt lr ld = true) : (lt.length : Int) = W * H := by
  simp only [mapOk, Bool.and_eq_true, decide_eq_true_iff] at h
  exact h.2.2.1

end Go.Proofs.YtmolpkjdjkhnpaaGreatDoor

/-
  The reference's tests of boards; open hexes and unused terrains as both sides hand them back. Nothing that was there is changed. The named variables hold what the program's text lays.
-/
namespace Go.Proofs.YtmolpkjdjkhnpaaGreatDoor
open Go.RowKit

set_option maxRecDepth 100000 in
set_option maxHeartbeats 4000000 in
theorem bGood_any (At Ak : Option Addr) (nt nk ct ck : Nat) (l : List Ter) (m : List Knd) (a b c d e W H : Int) (x r y : Value) (lt lr ld : List Int) (w : World) (hB : BrdAt w At Ak nt nk l m x r y lt lr ld) :
    Calls Tryz.prog 13 #[bv (.slice At nt ct) (.slice Ak nk ck) a b c d e W H x r y] w fun e' w' => e' = .returned (.bool (brdOk ⟨l, m, a, b, c, d, e⟩ W H lt lr ld)) ∧ Kp w w' := by
  have KA : Kp w (w.alloc (.cells #[.slice At nt ct, .slice Ak nk ck, .int .i64 a, .int .i64 b, .int .i64 c, .int .i64 d, .int .i64 e, .int .i64 W, .int .i64 H, x, r, y] 38)) := (Kp.refl w).alloc _
  have s0 : (w.alloc (.cells #[.slice At nt ct, .slice Ak nk ck, .int .i64 a, .int .i64 b, .int .i64 c, .int .i64 d, .int .i64 e, .int .i64 W, .int .i64 H, x, r, y] 38)).cell? ⟨w.heap.size, 0, none⟩ = some (.slice At nt ct) ∧ (w.alloc (.cells #[.slice At nt ct, .slice Ak nk ck, .int .i64 a, .int .i64 b, .int .i64 c, .int .i64 d, .int .i64 e, .int .i64 W, .int .i64 H, x, r, y] 38)).cell? ⟨w.heap.size, 1, none⟩ = some (.slice Ak nk ck) ∧ (w.alloc (.cells #[.slice At nt ct, .slice Ak nk ck, .int .i64 a, .int .i64 b, .int .i64 c, .int .i64 d, .int .i64 e, .int .i64 W, .int .i64 H, x, r, y] 38)).cell? ⟨w.heap.size, 2, none⟩ = some (.int .i64 a) ∧ (w.alloc (.cells #[.slice At nt ct, .slice Ak nk ck, .int .i64 a, .int .i64 b, .int .i64 c, .int .i64 d, .int .i64 e, .int .i64 W, .int .i64 H, x, r, y] 38)).cell? ⟨w.heap.size, 3, none⟩ = some (.int .i64 b) ∧ (w.alloc (.cells #[.slice At nt ct, .slice Ak nk ck, .int .i64 a, .int .i64 b, .int .i64 c, .int .i64 d, .int .i64 e, .int .i64 W, .int .i64 H, x, r, y] 38)).cell? ⟨w.heap.size, 4, none⟩ = some (.int .i64 c) ∧ (w.alloc (.cells #[.slice At nt ct, .slice Ak nk ck, .int .i64 a, .int .i64 b, .int .i64 c, .int .i64 d, .int .i64 e, .int .i64 W, .int .i64 H, x, r, y] 38)).cell? ⟨w.heap.size, 5, none⟩ = some (.int .i64 d) ∧ (w.alloc (.cells #[.slice At nt ct, .slice Ak nk ck, .int .i64 a, .int .i64 b, .int .i64 c, .int .i64 d, .int .i64 e, .int .i64 W, .int .i64 H, x, r, y] 38)).cell? ⟨w.heap.size, 6, none⟩ = some (.int .i64 e) ∧ (w.alloc (.cells #[.slice At nt ct, .slice Ak nk ck, .int .i64 a, .int .i64 b, .int .i64 c, .int .i64 d, .int .i64 e, .int .i64 W, .int .i64 H, x, r, y] 38)).cell? ⟨w.heap.size, 7, none⟩ = some (.int .i64 W) ∧ (w.alloc (.cells #[.slice At nt ct, .slice Ak nk ck, .int .i64 a, .int .i64 b, .int .i64 c, .int .i64 d, .int .i64 e, .int .i64 W, .int .i64 H, x, r, y] 38)).cell? ⟨w.heap.size, 8, none⟩ = some (.int .i64 H) ∧ (w.alloc (.cells #[.slice At nt ct, .slice Ak nk ck, .int .i64 a, .int .i64 b, .int .i64 c, .int .i64 d, .int .i64 e, .int .i64 W, .int .i64 H, x, r, y] 38)).cell? ⟨w.heap.size, 9, none⟩ = some (x) ∧ (w.alloc (.cells #[.slice At nt ct, .slice Ak nk ck, .int .i64 a, .int .i64 b, .int .i64 c, .int .i64 d, .int .i64 e, .int .i64 W, .int .i64 H, x, r, y] 38)).cell? ⟨w.heap.size, 10, none⟩ = some (r) ∧ (w.alloc (.cells #[.slice At nt ct, .slice Ak nk ck, .int .i64 a, .int .i64 b, .int .i64 c, .int .i64 d, .int .i64 e, .int .i64 W, .int .i64 H, x, r, y] 38)).cell? ⟨w.heap.size, 11, none⟩ = some (y) ∧ Kp w (w.alloc (.cells #[.slice At nt ct, .slice Ak nk ck, .int .i64 a, .int .i64 b, .int .i64 c, .int .i64 d, .int .i64 e, .int .i64 W, .int .i64 H, x, r, y] 38)) := ⟨by simp [go_sem], by simp [go_sem], by simp [go_sem], by simp [go_sem], by simp [go_sem], by simp [go_sem], by simp [go_sem], by simp [go_sem], by simp [go_sem], by simp [go_sem], by simp [go_sem], by simp [go_sem], KA⟩
  have HB := Lib.hid hB
  have C1 := Lib.hid (rGood_any At Ak nt nk ct ck l m a b c d e _ (hB.R.keep KA))
  have hl := hB.R.rt.1
  have e0 : brdOk ⟨l, m, a, b, c, d, e⟩ W H lt lr ld = ((rulOk ⟨l, m, a, b, c, d, e⟩ && mapOk W H lt lr ld) && lt.all (spB 0 ((nt : Int) - 1))) := by
    unfold brdOk
    rw [← hl]
  have hbt := hB.R.bt
  rw [e0]
  cases hr : rulOk ⟨l, m, a, b, c, d, e⟩
  · rw [hr] at C1
    clear hB hr e0 hl
    go_enter Tryz.func13, Tryz.ntmps13
    go_wp2_with fail
    refine C1.out.mono ?_
    rintro e1 w1 ⟨rfl, k1⟩
    go_wp2_with fail
    go_ret
    exact ⟨rfl, KA.trans k1⟩
  · rw [hr] at C1
    have CM := Lib.hid (fun w h => mGood_any W H x r y lt lr ld w h)
    cases hm : mapOk W H lt lr ld
    · rw [hm] at CM
      clear hB hr hm e0 hl
      go_enter Tryz.func13, Tryz.ntmps13
      go_wp2_with fail
      refine C1.out.mono ?_
      rintro e1 w1 ⟨rfl, k1⟩
      have s1 : w1.cell? ⟨w.heap.size, 0, none⟩ = some (.slice At nt ct) ∧ w1.cell? ⟨w.heap.size, 1, none⟩ = some (.slice Ak nk ck) ∧ w1.cell? ⟨w.heap.size, 2, none⟩ = some (.int .i64 a) ∧ w1.cell? ⟨w.heap.size, 3, none⟩ = some (.int .i64 b) ∧ w1.cell? ⟨w.heap.size, 4, none⟩ = some (.int .i64 c) ∧ w1.cell? ⟨w.heap.size, 5, none⟩ = some (.int .i64 d) ∧ w1.cell? ⟨w.heap.size, 6, none⟩ = some (.int .i64 e) ∧ w1.cell? ⟨w.heap.size, 7, none⟩ = some (.int .i64 W) ∧ w1.cell? ⟨w.heap.size, 8, none⟩ = some (.int .i64 H) ∧ w1.cell? ⟨w.heap.size, 9, none⟩ = some (x) ∧ w1.cell? ⟨w.heap.size, 10, none⟩ = some (r) ∧ w1.cell? ⟨w.heap.size, 11, none⟩ = some (y) ∧ Kp w w1 := ⟨k1.cell s0.1, k1.cell s0.2.1, k1.cell s0.2.2.1, k1.cell s0.2.2.2.1, k1.cell s0.2.2.2.2.1, k1.cell s0.2.2.2.2.2.1, k1.cell s0.2.2.2.2.2.2.1, k1.cell s0.2.2.2.2.2.2.2.1, k1.cell s0.2.2.2.2.2.2.2.2.1, k1.cell s0.2.2.2.2.2.2.2.2.2.1, k1.cell s0.2.2.2.2.2.2.2.2.2.2.1, k1.cell s0.2.2.2.2.2.2.2.2.2.2.2.1, s0.2.2.2.2.2.2.2.2.2.2.2.2.trans k1⟩
      clear s0 k1
      go_wp2_with fail
      refine (CM.out _ (HB.out.keep s1.2.2.2.2.2.2.2.2.2.2.2.2).L).mono ?_
      rintro e2 w2 ⟨rfl, k2⟩
      go_wp2_with fail
      go_ret
      exact ⟨rfl, s1.2.2.2.2.2.2.2.2.2.2.2.2.trans k2⟩
    · rw [hm] at CM
      clear hB hr hm e0 hl
      go_enter Tryz.func13, Tryz.ntmps13
      go_wp2_with fail
      refine C1.out.mono ?_
      rintro e1 w1 ⟨rfl, k1⟩
      have s1 : w1.cell? ⟨w.heap.size, 0, none⟩ = some (.slice At nt ct) ∧ w1.cell? ⟨w.heap.size, 1, none⟩ = some (.slice Ak nk ck) ∧ w1.cell? ⟨w.heap.size, 2, none⟩ = some (.int .i64 a) ∧ w1.cell? ⟨w.heap.size, 3, none⟩ = some (.int .i64 b) ∧ w1.cell? ⟨w.heap.size, 4, none⟩ = some (.int .i64 c) ∧ w1.cell? ⟨w.heap.size, 5, none⟩ = some (.int .i64 d) ∧ w1.cell? ⟨w.heap.size, 6, none⟩ = some (.int .i64 e) ∧ w1.cell? ⟨w.heap.size, 7, none⟩ = some (.int .i64 W) ∧ w1.cell? ⟨w.heap.size, 8, none⟩ = some (.int .i64 H) ∧ w1.cell? ⟨w.heap.size, 9, none⟩ = some (x) ∧ w1.cell? ⟨w.heap.size, 10, none⟩ = some (r) ∧ w1.cell? ⟨w.heap.size, 11, none⟩ = some (y) ∧ Kp w w1 := ⟨k1.cell s0.1, k1.cell s0.2.1, k1.cell s0.2.2.1, k1.cell s0.2.2.2.1, k1.cell s0.2.2.2.2.1, k1.cell s0.2.2.2.2.2.1, k1.cell s0.2.2.2.2.2.2.1, k1.cell s0.2.2.2.2.2.2.2.1, k1.cell s0.2.2.2.2.2.2.2.2.1, k1.cell s0.2.2.2.2.2.2.2.2.2.1, k1.cell s0.2.2.2.2.2.2.2.2.2.2.1, k1.cell s0.2.2.2.2.2.2.2.2.2.2.2.1, s0.2.2.2.2.2.2.2.2.2.2.2.2.trans k1⟩
      clear s0 k1
      go_wp2_with fail
      refine (CM.out _ (HB.out.keep s1.2.2.2.2.2.2.2.2.2.2.2.2).L).mono ?_
      rintro e2 w2 ⟨rfl, k2⟩
      have s2 : w2.cell? ⟨w.heap.size, 0, none⟩ = some (.slice At nt ct) ∧ w2.cell? ⟨w.heap.size, 1, none⟩ = some (.slice Ak nk ck) ∧ w2.cell? ⟨w.heap.size, 2, none⟩ = some (.int .i64 a) ∧ w2.cell? ⟨w.heap.size, 3, none⟩ = some (.int .i64 b) ∧ w2.cell? ⟨w.heap.size, 4, none⟩ = some (.int .i64 c) ∧ w2.cell? ⟨w.heap.size, 5, none⟩ = some (.int .i64 d) ∧ w2.cell? ⟨w.heap.size, 6, none⟩ = some (.int .i64 e) ∧ w2.cell? ⟨w.heap.size, 7, none⟩ = some (.int .i64 W) ∧ w2.cell? ⟨w.heap.size, 8, none⟩ = some (.int .i64 H) ∧ w2.cell? ⟨w.heap.size, 9, none⟩ = some (x) ∧ w2.cell? ⟨w.heap.size, 10, none⟩ = some (r) ∧ w2.cell? ⟨w.heap.size, 11, none⟩ = some (y) ∧ Kp w w2 := ⟨k2.cell s1.1, k2.cell s1.2.1, k2.cell s1.2.2.1, k2.cell s1.2.2.2.1, k2.cell s1.2.2.2.2.1, k2.cell s1.2.2.2.2.2.1, k2.cell s1.2.2.2.2.2.2.1, k2.cell s1.2.2.2.2.2.2.2.1, k2.cell s1.2.2.2.2.2.2.2.2.1, k2.cell s1.2.2.2.2.2.2.2.2.2.1, k2.cell s1.2.2.2.2.2.2.2.2.2.2.1, k2.cell s1.2.2.2.2.2.2.2.2.2.2.2.1, s1.2.2.2.2.2.2.2.2.2.2.2.2.trans k2⟩
      clear s1 k2
      go_wp2_with fail
      refine (l1All_sp _ lt _ _ _ (HB.out.keep s2.2.2.2.2.2.2.2.2.2.2.2.2).L.rt HB.out.L.bt).mono ?_
      rintro e3 w3 ⟨rfl, rfl⟩
      go_wp2_with fail
      go_ret
      exact ⟨ret_bool (by simp), s2.2.2.2.2.2.2.2.2.2.2.2.2⟩

theorem onI_zero {W H : Int} (a : 1 ≤ W) (c : 1 ≤ H) : onI W H 0 = true := by
  have : 1 ≤ W * H := by
    have := Int.mul_le_mul a c (by omega) (by omega)
    omega
  simp [onI]
  omega

end Go.Proofs.YtmolpkjdjkhnpaaGreatDoor

/-
  What the laws' sizes say: a negative number, or what is left and that all is small.
-/
namespace Go.Proofs.YtmolpkjdjkhnpaaGreatDoor
open Go.RowKit

/-- A negative number, or what is left and P. -/
def SzPost (P : Prop) (w : World) (e : Ending) (w' : World) : Prop := ∃ r : Int, e = .returned (.int .i64 r) ∧ r ≤ 1048576 ∧ -1 ≤ r ∧ (0 ≤ r → P) ∧ Kp w w'

end Go.Proofs.YtmolpkjdjkhnpaaGreatDoor

/-
  The laws' sizes of terrains, kinds and rules: either what is left is negative, or all that was counted is small. Nothing that was there is changed.
-/
namespace Go.Proofs.YtmolpkjdjkhnpaaGreatDoor
open Go.RowKit

def smT (x : Ter) : Prop := x.cost.length ≤ 1048576 ∧ x.name.size ≤ 1048576
def smK (x : Knd) : Prop := x.name.size ≤ 1048576

theorem szTerrain_any (n : ByteArray) (A : Option Addr) (nc cc : Nat) (s h : Int) (b : Bool) (left : Int) (w : World) (h0 : 0 ≤ left) (h1 : left ≤ 1048576) (hn : n.size ≤ 9223372036854775807) (hc : nc ≤ 9223372036854775807) :
    Calls Tryz.prog 57 #[tv n A nc cc s h b, .int .i64 left] w (SzPost (nc ≤ 1048576 ∧ n.size ≤ 1048576) w) := by
  by_cases a1 : (n.size : Int) ≤ left
  · have a1' : ¬ (left - n.size) < 0 := by omega
    by_cases a2 : (nc : Int) ≤ left - n.size
    · have a2' : ¬ (left - n.size - nc) < 0 := by omega
      go_enter Tryz.func57, Tryz.ntmps57
      go_wp2_with fail
      refine (szIntS_yes _ _ _ _ _ (by omega) (by omega) (by omega)).mono ?_
      rintro e1 w1 ⟨rfl, rfl⟩
      go_wp2_with fail
      go_ret
      exact ⟨_, rfl, by omega, by omega, fun _ => (by omega), (Kp.refl _).alloc _⟩
    · go_enter Tryz.func57, Tryz.ntmps57
      go_wp2_with fail
      refine (szIntS_no _ _ _ _ _ (by omega) (by omega) (by omega) (by omega)).mono ?_
      rintro e1 w1 ⟨rfl, rfl⟩
      go_wp2_with fail
      go_ret
      exact ⟨_, rfl, by omega, by omega, fun h => absurd h (by omega), (Kp.refl _).alloc _⟩
  · have a1' : (left - n.size) < 0 := by omega
    go_enter Tryz.func57, Tryz.ntmps57
    go_wp2_with fail
    go_ret
    exact ⟨_, rfl, by omega, by omega, fun h => absurd h (by omega), (Kp.refl _).alloc _⟩

theorem szKind_any (n : ByteArray) (a b c : Int) (z : Bool) (v : Int) (left : Int) (w : World) (h0 : 0 ≤ left) (h1 : left ≤ 1048576) (hn : n.size ≤ 9223372036854775807) :
    Calls Tryz.prog 58 #[kv n a b c z v, .int .i64 left] w (SzPost (n.size ≤ 1048576) w) := by
  by_cases a1 : (n.size : Int) ≤ left
  · have a1' : ¬ (left - n.size) < 0 := by omega
    go_enter Tryz.func58, Tryz.ntmps58
    go_wp2_with fail
    go_ret
    exact ⟨_, rfl, by omega, by omega, fun _ => (by omega), (Kp.refl _).alloc _⟩
  · have a1' : (left - n.size) < 0 := by omega
    go_enter Tryz.func58, Tryz.ntmps58
    go_wp2_with fail
    go_ret
    exact ⟨_, rfl, by omega, by omega, fun h => absurd h (by omega), (Kp.refl _).alloc _⟩

set_option maxRecDepth 100000 in
set_option maxHeartbeats 1000000 in
theorem szTerrainS_any (A : Option Addr) (n c : Nat) (l : List Ter) (left : Int) (w : World) (h : RdT w A n l) (h0 : 0 ≤ left) (h1 : left ≤ 1048576) (hn : n ≤ 9223372036854775807) (hb : ∀ x ∈ l, x.cost.length ≤ 9223372036854775807 ∧ x.name.size ≤ 9223372036854775807) :
    Calls Tryz.prog 27 #[.slice A n c, .int .i64 left] w (SzPost (n ≤ 1048576 ∧ ∀ x ∈ l, smT x) w) := by
  have HN := Lib.hid h.1
  have HA := Lib.hid h.2
  have HB := Lib.hid hb
  clear h hb
  obtain ⟨P, hP⟩ : ∃ P, P = (n ≤ 1048576 ∧ ∀ x ∈ l, smT x) := ⟨_, rfl⟩
  rw [← hP]
  have HP := Lib.hid hP
  clear hP
  by_cases a1 : (n : Int) ≤ left
  · have a1' : ¬ (left - n) < 0 := by omega
    go_enter Tryz.func27, Tryz.ntmps27
    go_wp2_with fail
    go_loopw [1, 5] (fun v i wr => ∃ (k : Nat) (r : Int), k ≤ n ∧ i = .int .i64 k ∧ v = .int .i64 r ∧ 0 ≤ r ∧ r ≤ 1048576 ∧ Hid (∀ j x, j < k → l[j]? = some x → smT x) ∧ Kp w wr) (fun _ i _ => n - (intOf i).toNat)
    case atStart => exact ⟨0, _, by omega, rfl, rfl, by omega, by omega, Lib.hid fun j x hj => absurd hj (by omega), Kp.refl _⟩
    case round =>
      obtain ⟨k, r, hk, rfl, rfl, r0, r1, hE, kr⟩ := hrel
      by_cases hlt : k < n
      · have hlt' : (k : Int) < n := by omega
        obtain ⟨g, off, rfl, hc⟩ := HA.out (by omega)
        obtain ⟨x, hx⟩ : ∃ x, l[k]? = some x := ⟨l[k]'(by have := HN.out; omega), List.getElem?_eq_getElem _⟩
        obtain ⟨Ac, cc, ⟨a0, a1, a2, a3, a4⟩, _⟩ := (hc k x hx).keep kr
        have HX := Lib.hid hx
        have hbx := HB.out x (List.mem_of_getElem? hx)
        obtain ⟨nm, cs, sh, hg, bl⟩ := x
        simp only at a0 a1 a2 a3 a4 hbx
        obtain ⟨hb1, hb2⟩ := hbx
        generalize hnc : cs.length = nc at a1 hb1
        have HNC2 := Lib.hid hnc
        clear hnc
        clear hc hx
        go_wp2_with fail
        refine (szTerrain_any _ _ _ _ _ _ _ _ _ r0 r1 hb2 hb1).mono ?_
        rintro e1 w1 ⟨r2, rfl, u1, u2, u3, k1⟩
        by_cases hneg : r2 < 0
        · go_wp2_with fail
          go_ret
          exact ⟨_, rfl, by omega, by omega, fun h => absurd h (by omega), kr.trans k1⟩
        · have hs : Hid (smT ⟨nm, cs, sh, hg, bl⟩) := Lib.hid (by have := u3 (by omega); simpa [smT, HNC2.out] using this)
          have HE2 : Hid (∀ j x, j < k + 1 → l[j]? = some x → smT x) := Lib.hid fun j x hj hx => by
            rcases Nat.lt_or_ge j k with hjk | hjk
            · exact hE.out j x hjk hx
            · obtain rfl : j = k := by omega
              rw [HX.out] at hx
              obtain rfl := Option.some.inj hx
              exact hs.out
          clear u3
          go_wp2_with fail
          go_roundw
          case rel => exact ⟨k + 1, r2, by omega, by go_num, rfl, by omega, by omega, HE2, kr.trans k1⟩
          case measure => simp [intOf]; omega
      · obtain rfl : k = n := by omega
        go_wp2_with fail
        go_ret
        refine ⟨_, rfl, by omega, by omega, fun _ => ?_, kr⟩
        rw [HP.out]
        refine ⟨by omega, fun x hx => ?_⟩
        obtain ⟨i, hi, rfl⟩ := List.mem_iff_getElem.1 hx
        exact hE.out i _ (by have := HN.out; omega) (List.getElem?_eq_getElem hi)
  · have a1' : (left - n) < 0 := by omega
    go_enter Tryz.func27, Tryz.ntmps27
    go_wp2_with fail
    go_ret
    exact ⟨_, rfl, by omega, by omega, fun h => absurd h (by omega), Kp.refl _⟩

set_option maxRecDepth 100000 in
set_option maxHeartbeats 1000000 in
theorem szKindS_any (A : Option Addr) (n c : Nat) (l : List Knd) (left : Int) (w : World) (h : RdK w A n l) (h0 : 0 ≤ left) (h1 : left ≤ 1048576) (hn : n ≤ 9223372036854775807) (hb : ∀ x ∈ l, x.name.size ≤ 9223372036854775807) :
    Calls Tryz.prog 28 #[.slice A n c, .int .i64 left] w (SzPost (n ≤ 1048576 ∧ ∀ x ∈ l, smK x) w) := by
  have HN := Lib.hid h.1
  have HA := Lib.hid h.2
  have HB := Lib.hid hb
  clear h hb
  obtain ⟨P, hP⟩ : ∃ P, P = (n ≤ 1048576 ∧ ∀ x ∈ l, smK x) := ⟨_, rfl⟩
  rw [← hP]
  have HP := Lib.hid hP
  clear hP
  by_cases a1 : (n : Int) ≤ left
  · have a1' : ¬ (left - n) < 0 := by omega
    go_enter Tryz.func28, Tryz.ntmps28
    go_wp2_with fail
    go_loopw [1, 5] (fun v i wr => ∃ (k : Nat) (r : Int), k ≤ n ∧ i = .int .i64 k ∧ v = .int .i64 r ∧ 0 ≤ r ∧ r ≤ 1048576 ∧ Hid (∀ j x, j < k → l[j]? = some x → smK x) ∧ Kp w wr) (fun _ i _ => n - (intOf i).toNat)
    case atStart => exact ⟨0, _, by omega, rfl, rfl, by omega, by omega, Lib.hid fun j x hj => absurd hj (by omega), Kp.refl _⟩
    case round =>
      obtain ⟨k, r, hk, rfl, rfl, r0, r1, hE, kr⟩ := hrel
      by_cases hlt : k < n
      · have hlt' : (k : Int) < n := by omega
        obtain ⟨g, off, rfl, hc⟩ := HA.out (by omega)
        obtain ⟨x, hx⟩ : ∃ x, l[k]? = some x := ⟨l[k]'(by have := HN.out; omega), List.getElem?_eq_getElem _⟩
        obtain ⟨a0, a1, a2, a3, a4, a5⟩ := (hc k x hx).keep kr
        have HX := Lib.hid hx
        have hbx := HB.out x (List.mem_of_getElem? hx)
        obtain ⟨nm, ks, km, kt, kz, kw⟩ := x
        simp only at a0 a1 a2 a3 a4 a5 hbx
        clear hc hx
        go_wp2_with fail
        refine (szKind_any _ _ _ _ _ _ _ _ r0 r1 hbx).mono ?_
        rintro e1 w1 ⟨r2, rfl, u1, u2, u3, k1⟩
        by_cases hneg : r2 < 0
        · go_wp2_with fail
          go_ret
          exact ⟨_, rfl, by omega, by omega, fun h => absurd h (by omega), kr.trans k1⟩
        · have hs : Hid (smK ⟨nm, ks, km, kt, kz, kw⟩) := Lib.hid (by have := u3 (by omega); exact this)
          have HE2 : Hid (∀ j x, j < k + 1 → l[j]? = some x → smK x) := Lib.hid fun j x hj hx => by
            rcases Nat.lt_or_ge j k with hjk | hjk
            · exact hE.out j x hjk hx
            · obtain rfl : j = k := by omega
              rw [HX.out] at hx
              obtain rfl := Option.some.inj hx
              exact hs.out
          clear u3
          go_wp2_with fail
          go_roundw
          case rel => exact ⟨k + 1, r2, by omega, by go_num, rfl, by omega, by omega, HE2, kr.trans k1⟩
          case measure => simp [intOf]; omega
      · obtain rfl : k = n := by omega
        go_wp2_with fail
        go_ret
        refine ⟨_, rfl, by omega, by omega, fun _ => ?_, kr⟩
        rw [HP.out]
        refine ⟨by omega, fun x hx => ?_⟩
        obtain ⟨i, hi, rfl⟩ := List.mem_iff_getElem.1 hx
        exact hE.out i _ (by have := HN.out; omega) (List.getElem?_eq_getElem hi)
  · have a1' : (left - n) < 0 := by omega
    go_enter Tryz.func28, Tryz.ntmps28
    go_wp2_with fail
    go_ret
    exact ⟨_, rfl, by omega, by omega, fun h => absurd h (by omega), Kp.refl _⟩

/-- What an argument's rules are: two slices that read as lists, within Go's own bounds. -/
structure RulIn (w : World) (At Ak : Option Addr) (nt nk : Nat) (l : List Ter) (m : List Knd) : Prop where
  rt : RdT w At nt l
  rk : RdK w Ak nk m
  bt : nt ≤ 9223372036854775807
  bk : nk ≤ 9223372036854775807
  bc : ∀ x ∈ l, x.cost.length ≤ 9223372036854775807 ∧ x.name.size ≤ 9223372036854775807
  bn : ∀ x ∈ m, x.name.size ≤ 9223372036854775807
def rulSm (nt nk : Nat) (l : List Ter) (m : List Knd) : Prop := (nt ≤ 1048576 ∧ ∀ x ∈ l, smT x) ∧ (nk ≤ 1048576 ∧ ∀ x ∈ m, smK x)
theorem RulIn.at {w : World} {At Ak : Option Addr} {nt nk : Nat} {l : List Ter} {m : List Knd} (h : RulIn w At Ak nt nk l m) (s : rulSm nt nk l m) : RulAt w At Ak nt nk l m :=
  ⟨h.rt, h.rk, s.1.1, s.2.1, s.1.2, s.2.2⟩

set_option maxRecDepth 100000 in
set_option maxHeartbeats 1000000 in
theorem szRules_any (At Ak : Option Addr) (nt nk ct ck : Nat) (l : List Ter) (m : List Knd) (a b c d e : Int) (left : Int) (w : World) (h : RulIn w At Ak nt nk l m) (h0 : 0 ≤ left) (h1 : left ≤ 1048576) :
    Calls Tryz.prog 11 #[rv (.slice At nt ct) (.slice Ak nk ck) a b c d e, .int .i64 left] w (SzPost (rulSm nt nk l m) w) := by
  have HL := Lib.hid h
  have KA : Kp w (w.alloc (.cells #[.slice At nt ct, .slice Ak nk ck, .int .i64 a, .int .i64 b, .int .i64 c, .int .i64 d, .int .i64 e] 25)) := (Kp.refl w).alloc _
  have f1 : (w.alloc (.cells #[.slice At nt ct, .slice Ak nk ck, .int .i64 a, .int .i64 b, .int .i64 c, .int .i64 d, .int .i64 e] 25)).cell? ⟨w.heap.size, 1, none⟩ = some (.slice Ak nk ck) := by simp [go_sem]
  clear h
  go_enter Tryz.func11, Tryz.ntmps11
  go_wp2_with fail
  refine (szTerrainS_any _ _ _ l _ _ (HL.out.rt.keep KA) h0 h1 HL.out.bt HL.out.bc).mono ?_
  rintro e1 w1 ⟨r1, rfl, u1, u2, u3, k1⟩
  have f2 := k1.cell f1
  have H3 := Lib.hid u3
  clear u3
  by_cases hneg : r1 < 0
  · go_wp2_with fail
    go_ret
    exact ⟨_, rfl, by omega, by omega, fun h => absurd h (by omega), KA.trans k1⟩
  · go_wp2_with fail
    refine (szKindS_any _ _ _ m _ _ (HL.out.rk.keep (KA.trans k1)) (by omega) u1 HL.out.bk HL.out.bn).mono ?_
    rintro e2 w2 ⟨r2, rfl, v1, v2, v3, k2⟩
    have H4 := Lib.hid v3
    clear v3
    by_cases hneg2 : r2 < 0
    · go_wp2_with fail
      go_ret
      exact ⟨_, rfl, by omega, by omega, fun h => absurd h (by omega), (KA.trans k1).trans k2⟩
    · go_wp2_with fail
      go_ret
      exact ⟨_, rfl, by omega, by omega, fun _ => ⟨H3.out (by omega), H4.out (by omega)⟩, (KA.trans k1).trans k2⟩

end Go.Proofs.YtmolpkjdjkhnpaaGreatDoor

/-
  What a row's list says of named variables, cell by cell; worlds in which they lie.
-/
namespace Go.Proofs.YtmolpkjdjkhnpaaGreatDoor
open Go.ChangeShapes Go.WideShapes Go.ChangeAt Go.RowKit Go.Joins

theorem cellsInt : Tryz.prog.cellsOf 3 = 1 := by kernel_rfl
theorem laid_one {P : Program} {w : World} : ∀ {l : List (String × DataW Unit)} {ps : List MemPlace} {n : String} {d : DataW Unit}, DataW.LaidVars P w l ps → (n, d) ∈ l →
    ∃ g t cs fuel p, P.globalNamed n = some g ∧ (P.globals[g]?).map (·.type) = some t ∧ w.var? P n = some cs ∧ DataW.trod (fun _ => ()) P w 0 (fun _ => true) false fuel t cs.toList = some (d, p)
  | [], _, _, _, _, h => by cases h
  | (m, e) :: r, ps, n, d, hl, h => by
    obtain ⟨g, t, cs, fuel, p, q, h1, h2, h3, h4, hr, _⟩ := hl
    rcases List.mem_cons.1 h with he | he
    · obtain ⟨rfl, rfl⟩ := Prod.mk.injEq .. |>.mp he
      exact ⟨g, t, cs, fuel, p, h1, h2, h3, h4⟩
    · exact laid_one hr he

theorem spanFields : ∃ f0 f1 : Field, Tryz.prog.underlying 109 = some (.struct #[f0, f1]) ∧ f0.type = 3 ∧ f1.type = 3 ∧ f0.offset = 0 ∧ f1.offset = 1 :=
  ⟨_, _, Tryz.underlying109, rfl, rfl, rfl, rfl⟩
theorem span_of {W : World} {n : String} {g : Nat} {a b : Int} (hG : Tryz.prog.globalNamed n = some g) (hT : (Tryz.prog.globals[g]?).map (·.type) = some 109)
    (h : ∃ g t cs fuel p, Tryz.prog.globalNamed n = some g ∧ (Tryz.prog.globals[g]?).map (·.type) = some t ∧ W.var? Tryz.prog n = some cs ∧ DataW.trod (fun _ => ()) Tryz.prog W 0 (fun _ => true) false fuel t cs.toList = some (.agg [.lit (.int .i64 a), .lit (.int .i64 b)], p)) : SpanAt W g a b := by
  obtain ⟨g', t', cs, fuel, p, hg', ht', hvar, hd⟩ := h
  obtain rfl := Option.some.inj (hG.symm.trans hg')
  obtain rfl := Option.some.inj (hT.symm.trans ht')
  obtain ⟨f0, f1, hu, e0, e1, o0, o1⟩ := spanFields
  obtain ⟨y0, y1, n', hx, hlen, u0, u1⟩ := trod_struct2 hu hd
  rw [e0, o0, cellsInt] at u0
  rw [e1, o1, cellsInt] at u1
  obtain ⟨x, c0, rfl, _⟩ := DataW.trod_int Tryz.underlying3 u0
  obtain ⟨y, c1, rfl, _⟩ := DataW.trod_int Tryz.underlying3 u1
  simp only [Prod.mk.injEq, DataW.agg.injEq, List.cons.injEq, DataW.lit.injEq, Lit.int.injEq, true_and, and_true] at hx
  obtain ⟨⟨rfl, rfl⟩, _⟩ := hx
  have g0 : cs[0]? = some (.int .i64 a) := by
    have := congrArg (·[0]?) c0
    simpa [List.getElem?_take, List.getElem?_drop] using this
  have g1 : cs[1]? = some (.int .i64 b) := by
    have := congrArg (·[0]?) c1
    simpa [List.getElem?_take, List.getElem?_drop] using this
  exact ⟨(World.var?_cell hG hvar _).trans g0, (World.var?_cell hG hvar _).trans g1⟩

/-- The same world, a variable's cells laid. -/
noncomputable def setVar (w : World) (g : Nat) (xs : Array Value) : World :=
  { w with heap := w.heap.modify g fun
      | .cells _ t frozen => .cells xs t frozen
      | o => o }
theorem trodVars_len {H : Type} {enc : TypeId × Value → H} {P : Program} {w : World} {sp : Nat → Bool} : ∀ {ns : List String} {gs : List (DataW H)} {ps : List MemPlace}, DataW.TrodVars enc P w sp ns gs ps → gs.length = ns.length
  | [], [], _, _ => rfl
  | n :: ns, d :: ds, _, h => by
    obtain ⟨_, _, _, _, _, _, _, _, _, _, h, _⟩ := h
    simp [trodVars_len h]
  | [], _ :: _, _, h => h.elim
  | _ :: _, [], _, h => h.elim
end Go.Proofs.YtmolpkjdjkhnpaaGreatDoor

/-
  What the row's list says of the table of directions, cell by cell; and a world for the witness in which the table lies.
-/
namespace Go.Proofs.YtmolpkjdjkhnpaaGreatDoor
open Go.ChangeShapes Go.WideShapes Go.ChangeAt Go.RowKit Go.Joins

abbrev tabName : String := "loop.example/g00886/impl.directionSteps"
theorem tabG : Tryz.prog.globalNamed tabName = some 14 := by kernel_rfl
theorem tabT : (Tryz.prog.globals[14]?).map (·.type) = some 128 := by kernel_rfl
theorem cellsOff : Tryz.prog.cellsOf 127 = 2 := by kernel_rfl
theorem offFields : ∃ f0 f1 : Field, Tryz.prog.underlying 127 = some (.struct #[f0, f1]) ∧ f0.type = 3 ∧ f1.type = 3 ∧ f0.offset = 0 ∧ f1.offset = 1 :=
  ⟨_, _, Tryz.underlying127, rfl, rfl, rfl, rfl⟩

theorem tab_datum {H : Type} (d : Nat) (h : d < 6) :
    ([.agg [.lit (.int .i64 1), .lit (.int .i64 0)], .agg [.lit (.int .i64 1), .lit (.int .i64 (-1))], .agg [.lit (.int .i64 0), .lit (.int .i64 (-1))], .agg [.lit (.int .i64 (-1)), .lit (.int .i64 0)], .agg [.lit (.int .i64 (-1)), .lit (.int .i64 1)], .agg [.lit (.int .i64 0), .lit (.int .i64 1)]] : List (DataW H))[d]? =
      some (.agg [.lit (.int .i64 (dirQ d)), .lit (.int .i64 (dirR d))]) := by
  match d, h with
  | 0, _ => rfl
  | 1, _ => rfl
  | 2, _ => rfl
  | 3, _ => rfl
  | 4, _ => rfl
  | 5, _ => rfl

theorem tab_of_laid1 {W : World} (h : ∃ g t cs fuel p, Tryz.prog.globalNamed tabName = some g ∧ (Tryz.prog.globals[g]?).map (·.type) = some t ∧ W.var? Tryz.prog tabName = some cs ∧ DataW.trod (fun _ => ()) Tryz.prog W 0 (fun _ => true) false fuel t cs.toList = some (Rows.laid_loop_example_g00886_impl_directionSteps, p)) : Tab W := by
  obtain ⟨g', t', cs, fuel, p, hg', ht', hvar, hd⟩ := h
  obtain rfl := Option.some.inj (tabG.symm.trans hg')
  obtain rfl := Option.some.inj (tabT.symm.trans ht')
  obtain ⟨xs, m, _, hx, hl, hn, hi⟩ := DataW.trod_array Tryz.underlying128 hd
  have hxs : xs.map (·.1) = [.agg [.lit (.int .i64 1), .lit (.int .i64 0)], .agg [.lit (.int .i64 1), .lit (.int .i64 (-1))], .agg [.lit (.int .i64 0), .lit (.int .i64 (-1))], .agg [.lit (.int .i64 (-1)), .lit (.int .i64 0)], .agg [.lit (.int .i64 (-1)), .lit (.int .i64 1)], .agg [.lit (.int .i64 0), .lit (.int .i64 1)]] := by
    have := congrArg Prod.fst hx
    simp only [Rows.laid_loop_example_g00886_impl_directionSteps, DataW.agg.injEq] at this
    exact this.symm
  intro d hd6
  have h1 := hi d hd6
  rw [cellsOff] at h1
  have h2 : (xs.map (·.1))[d]? = some (.agg [.lit (.int .i64 (dirQ d)), .lit (.int .i64 (dirR d))]) := by rw [hxs]; exact tab_datum d hd6
  rw [List.getElem?_map, Option.map_eq_some_iff] at h2
  obtain ⟨y, hy, hy1⟩ := h2
  obtain ⟨f0, f1, hu, e0, e1, o0, o1⟩ := offFields
  obtain ⟨y0, y1, n, rfl, hlen, u0, u1⟩ := trod_struct2 hu (h1.trans hy)
  rw [e0, o0, cellsInt] at u0
  rw [e1, o1, cellsInt] at u1
  obtain ⟨a, c0, rfl, _⟩ := DataW.trod_int Tryz.underlying3 u0
  obtain ⟨b, c1, rfl, _⟩ := DataW.trod_int Tryz.underlying3 u1
  simp only [DataW.agg.injEq, List.cons.injEq, DataW.lit.injEq, Lit.int.injEq, true_and, and_true] at hy1
  obtain ⟨rfl, rfl⟩ := hy1
  have g0 : cs[d * 2]? = some (.int .i64 (dirQ d)) := by
    have := congrArg (·[0]?) c0
    simpa [List.getElem?_take, List.getElem?_drop] using this
  have g1 : cs[d * 2 + 1]? = some (.int .i64 (dirR d)) := by
    have := congrArg (·[0]?) c1
    simpa [List.getElem?_take, List.getElem?_drop] using this
  exact ⟨(World.var?_cell tabG hvar _).trans g0, (World.var?_cell tabG hvar _).trans g1⟩
theorem tab_of_laid {W : World} (h : laidMetH Tryz.prog [(tabName, Rows.laid_loop_example_g00886_impl_directionSteps)] W) : Tab W := by
  have h' : laidMet Tryz.prog [(tabName, Rows.laid_loop_example_g00886_impl_directionSteps)] W := h
  obtain ⟨ps, ⟨g', t', cs, fuel, p, q, hg', ht', hvar, hd, _, _⟩, _⟩ := h'
  exact tab_of_laid1 ⟨g', t', cs, fuel, p, hg', ht', hvar, hd⟩

/-- A world for the witness: the settled one, the table holding what its text lays. -/
noncomputable def laidWorld (os : Os) : World :=
  { World.holding Tryz.prog os ⟨#[], #[], []⟩ with heap := (World.holding Tryz.prog os ⟨#[], #[], []⟩).heap.modify 14 fun
      | .cells _ t frozen => .cells #[.int .i64 1, .int .i64 0, .int .i64 1, .int .i64 (-1), .int .i64 0, .int .i64 (-1), .int .i64 (-1), .int .i64 0, .int .i64 (-1), .int .i64 1, .int .i64 0, .int .i64 1] t frozen
      | o => o }
end Go.Proofs.YtmolpkjdjkhnpaaGreatDoor

/-
  Arguments that are structs, and slices of structs: their cells, read one by one.
-/
namespace Go.Proofs.YtmolpkjdjkhnpaaGreatDoor
open Go.ChangeShapes Go.WideShapes Go.ChangeAt Go.RowKit Go.Joins Go.Deep

/-- The cells of a struct whose fields take one cell each, read one by one. -/
theorem fields_of_trod {H : Type} {enc : TypeId × Value → H} {P : Program} {w : World} {base n0 fuel : Nat} {spare : Nat → Bool} {held : Bool} {t : TypeId} {fs : Array Field} {cs : List Value} {x : DataW H × List MemPlace}
    (hs : P.underlying t = some (.struct fs)) (hone : Go.Deep.oneCellFields P fs = true) (hn : fs.size = n0) (hl : cs.length = n0) (hf : DataW.trod enc P w base spare held fuel t cs = some x) :
    ∃ n : Nat, ∀ (j : Nat) (f : Field), fs[j]? = some f → ∃ c y, cs[j]? = some c ∧ DataW.trod enc P w base spare held n f.type [c] = some y := by
  obtain ⟨xs, n, _, _, _, hlen, hg⟩ := DataW.trod_struct hs hf
  refine ⟨n, fun j f hj => ?_⟩
  have hjl : j < fs.size := (Array.getElem?_eq_some_iff.1 hj).1
  obtain ⟨o, k⟩ := Go.Deep.hone_of hone j f hj
  have h1 := hg j f hj
  rw [o, k] at h1
  have e : (cs.drop j).take 1 = [cs[j]'(by omega)] := by
    rw [List.drop_eq_getElem_cons (by omega)]
    rfl
  rw [e] at h1
  exact ⟨_, _, List.getElem?_eq_getElem (by omega), h1.trans (List.getElem?_eq_getElem (by omega))⟩

theorem add_none' (b off k : Nat) : (⟨b, off, none⟩ : Addr).add k = ⟨b, off + k, none⟩ := by
  unfold Addr.add
  split
  · rename_i h
    simp_all
  · rfl
theorem RdI.shape {w : World} {v : Value} {l : List Int} (h : RdI w v l) : ∃ A c, v = .slice A l.length c := by
  obtain ⟨A, c, e, _⟩ := h
  exact ⟨A, c, e⟩

/-- A slice of structs of sz cells each reads as a list, where each element's cells do. -/
theorem rd_structs {α : Type} {H : Type} {enc : TypeId × Value → H} {W : World} {t e : TypeId} {sz fuel : Nat} {v : Value} {y : DataW H × List MemPlace} (At : Nat → Nat → α → Prop) (hsz : Tryz.prog.cellsOf e = sz)
    (ht : Tryz.prog.underlying t = some (.slice e)) (hf : DataW.trod enc Tryz.prog W 0 (fun _ => true) true fuel t [v] = some y)
    (one : ∀ (a : Addr) (fu : Nat) (cs : List Value) (x : DataW H × List MemPlace), cs.length = sz → (∀ j, j < sz → W.cell? (a.add j) = cs[j]?) → DataW.trod enc Tryz.prog W 0 (fun _ => true) true fu e cs = some x → a.spot = none ∧ ∃ z : α, At a.block a.off z) :
    ∃ (A : Option Addr) (n c : Nat) (l : List α), v = .slice A n c ∧ l.length = n ∧ n ≤ maxLen ∧ (0 < n → ∃ g off, A = some ⟨g, off, none⟩ ∧ ∀ i x, l[i]? = some x → At g (off + i * sz) x) := by
  rcases open_slice ht hf with ⟨hcs, _⟩ | ⟨a, len, cap, m, n, D, Pl, hcs, _, hl, hm, hmm, _, hi⟩
  · simp only [List.cons.injEq, and_true] at hcs
    exact ⟨none, 0, 0, [], hcs, rfl, by decide, fun h => absurd h (by omega)⟩
  · simp only [List.cons.injEq, and_true] at hcs
    have hmc : m = cap := by simpa using hmm
    have each : ∀ i, i < len → (a.add (i * sz)).spot = none ∧ ∃ z : α, At (a.add (i * sz)).block (a.add (i * sz)).off z := by
      intro i hil
      obtain ⟨cs', hc, ht'⟩ := hi i (by omega)
      rw [hsz] at hc
      obtain ⟨_, hcl, hat⟩ := World.cells?_some hc
      exact one _ _ cs' _ hcl (fun j hj => hat j hj) ht'
    rcases Nat.eq_zero_or_pos len with rfl | hpos
    · exact ⟨some a, 0, cap, [], hcs, rfl, by omega, fun h => absurd h (by omega)⟩
    · obtain ⟨b, off, spot⟩ := a
      have hspot : spot = none := by
        have := (each 0 hpos).1
        simpa [Addr.add] using this
      subst hspot
      let l : List α := (List.range len).attach.map fun i => (each i.1 (List.mem_range.1 i.2)).2.choose
      have hll : l.length = len := by simp [l]
      refine ⟨_, len, cap, l, hcs, hll, by omega, fun _ => ⟨b, off, rfl, fun i x hx => ?_⟩⟩
      have hil : i < len := by have := (List.getElem?_eq_some_iff.1 hx).1; omega
      have hs := (each i hil).2.choose_spec
      have key : ∀ (A : Addr) (z : α), A = ⟨b, off + i * sz, none⟩ → At A.block A.off z → At b (off + i * sz) z := by
        rintro _ _ rfl h
        exact h
      have hx' : x = (each i hil).2.choose := by
        obtain ⟨hi2, rfl⟩ := List.getElem?_eq_some_iff.1 hx
        simp [l]
      rw [hx']
      exact key _ _ (add_none' b off (i * sz)) hs

/-- An argument that is a struct whose fields take one cell each: the cell of each field reads as the field's type says. -/
theorem open_fields {H : Type} {enc : TypeId × Value → H} {P : Program} {w : World} {base b0 n0 : Nat} {spare : Nat → Bool} {held : Bool} {rc : Reach} {t : TypeId} {fs : Array Field} {v : Value} {d : DataW H} {p : List MemPlace}
    (hs : P.underlying t = some (.struct fs)) (hone : Go.Deep.oneCellFields P fs = true) (hC : P.cellsOf t = n0) (hn : fs.size = n0) (hv : Value.okWide P w rc b0 t v) (h : DataW.Trod enc P w base spare held t v d p) :
    ∃ (cs : List Value) (n : Nat), v = .agg cs.toArray ∧ cs.length = n0 ∧ ∀ (j : Nat) (f : Field), fs[j]? = some f → ∃ c y, cs[j]? = some c ∧ DataW.trod enc P w base spare held n f.type [c] = some y := by
  obtain ⟨⟨cs⟩, rfl, hsz⟩ := okWide_struct hs hv
  obtain ⟨fuel, hf⟩ := h
  obtain ⟨xs, n, _, _, _, hlen, hg⟩ := DataW.trod_struct hs hf
  have hcl : cs.length = n0 := hsz.trans hC
  refine ⟨cs, n, rfl, hcl, fun j f hj => ?_⟩
  have hjl : j < fs.size := (Array.getElem?_eq_some_iff.1 hj).1
  obtain ⟨o, k⟩ := Go.Deep.hone_of hone j f hj
  have h1 := hg j f hj
  rw [o, k] at h1
  have e : ((Value.agg cs.toArray).cells.toList.drop j).take 1 = [cs[j]'(by omega)] := by
    simp only [Value.cells, List.toList_toArray]
    rw [List.drop_eq_getElem_cons (by omega)]
    rfl
  rw [e] at h1
  exact ⟨_, _, List.getElem?_eq_getElem (by omega), h1.trans (List.getElem?_eq_getElem (by omega))⟩
end Go.Proofs.YtmolpkjdjkhnpaaGreatDoor

/-
  What every law on maps needs: the argument's lists, the copies of the map, the cells of the two boxes.
-/
namespace Go.Proofs.YtmolpkjdjkhnpaaGreatDoor
open Go.ChangeShapes Go.WideShapes Go.ChangeAt Go.RowKit Go.Joins

/-- What an argument's three lists are: slices that read as lists, of Go's own lengths and numbers. -/
structure Reads (w : World) (t r d : Value) (lt lr ld : List Int) : Prop where
  rt : RdI w t lt
  rr : RdI w r lr
  rd : RdI w d ld
  bt : lt.length ≤ 9223372036854775807
  br : lr.length ≤ 9223372036854775807
  bd : ld.length ≤ 9223372036854775807
  it : ∀ x ∈ lt, isI64 x
  ir : ∀ x ∈ lr, isI64 x
  id : ∀ x ∈ ld, isI64 x
theorem Reads.lists {w : World} {t r d : Value} {lt lr ld : List Int} (h : Reads w t r d lt lr ld) (hb : lt.length + lr.length + ld.length ≤ 1048576) : Lists w t r d lt lr ld :=
  ⟨h.rt, h.rr, h.rd, by omega, by omega, by omega, h.it, h.ir, h.id⟩
theorem Own3.lists {w w0 : World} {base : Nat} {t r d t0 r0 d0 : Value} {lt lr ld : List Int} (o : Own3 w base t r d lt lr ld) (h : Lists w0 t0 r0 d0 lt lr ld) : Lists w t r d lt lr ld :=
  ⟨o.ot.rd, o.or.rd, o.od.rd, h.bt, h.br, h.bd, h.it, h.ir, h.id⟩

theorem toMap_sl (W H : Int) (t r d : Value) (lt lr ld : List Int) (nt nr nd : Nat) (w : World) (hL : Lists w t r d lt lr ld) (h1 : lt.length = nt) (h2 : lr.length = nr) (h3 : ld.length = nd) :
    Calls Tryz.prog 17 #[mp W H t r d] w fun e w' => ∃ (A1 : Option Addr) (c1 : Nat) (A2 : Option Addr) (c2 : Nat) (A3 : Option Addr) (c3 : Nat), e = .returned (mp W H (.slice A1 nt c1) (.slice A2 nr c2) (.slice A3 nd c3)) ∧
      Own3 w' w.heap.size (.slice A1 nt c1) (.slice A2 nr c2) (.slice A3 nd c3) lt lr ld ∧ Kp w w' :=
  (toMap_any W H t r d lt lr ld w hL).mono fun e w' ⟨t', r', d', he, ho, hk⟩ => by
    obtain ⟨A1, c1, rfl⟩ := ho.ot.slice
    obtain ⟨A2, c2, rfl⟩ := ho.or.slice
    obtain ⟨A3, c3, rfl⟩ := ho.od.slice
    subst h1 h2 h3
    exact ⟨A1, c1, A2, c2, A3, c3, he, ho, hk⟩

theorem keep10 {W0 w w1 : World} {b b' : Nat} {v0 v1 v2 v3 v4 u0 u1 u2 u3 u4 : Value} (k : Kp w w1)
    (h : (w.cell? ⟨b, 0, none⟩ = some v0 ∧ w.cell? ⟨b, 1, none⟩ = some v1 ∧ w.cell? ⟨b, 2, none⟩ = some v2 ∧ w.cell? ⟨b, 3, none⟩ = some v3 ∧ w.cell? ⟨b, 4, none⟩ = some v4 ∧ Kp W0 w) ∧
      w.cell? ⟨b', 0, none⟩ = some u0 ∧ w.cell? ⟨b', 1, none⟩ = some u1 ∧ w.cell? ⟨b', 2, none⟩ = some u2 ∧ w.cell? ⟨b', 3, none⟩ = some u3 ∧ w.cell? ⟨b', 4, none⟩ = some u4 ∧ Kp W0 w) :
    (w1.cell? ⟨b, 0, none⟩ = some v0 ∧ w1.cell? ⟨b, 1, none⟩ = some v1 ∧ w1.cell? ⟨b, 2, none⟩ = some v2 ∧ w1.cell? ⟨b, 3, none⟩ = some v3 ∧ w1.cell? ⟨b, 4, none⟩ = some v4 ∧ Kp W0 w1) ∧
      w1.cell? ⟨b', 0, none⟩ = some u0 ∧ w1.cell? ⟨b', 1, none⟩ = some u1 ∧ w1.cell? ⟨b', 2, none⟩ = some u2 ∧ w1.cell? ⟨b', 3, none⟩ = some u3 ∧ w1.cell? ⟨b', 4, none⟩ = some u4 ∧ Kp W0 w1 :=
  ⟨keep5 k h.1, keep5 k h.2⟩
theorem drew10 {W0 w : World} {b b' : Nat} {v0 v1 v2 v3 v4 u0 u1 u2 u3 u4 : Value}
    (h : (w.cell? ⟨b, 0, none⟩ = some v0 ∧ w.cell? ⟨b, 1, none⟩ = some v1 ∧ w.cell? ⟨b, 2, none⟩ = some v2 ∧ w.cell? ⟨b, 3, none⟩ = some v3 ∧ w.cell? ⟨b, 4, none⟩ = some v4 ∧ Kp W0 w) ∧
      w.cell? ⟨b', 0, none⟩ = some u0 ∧ w.cell? ⟨b', 1, none⟩ = some u1 ∧ w.cell? ⟨b', 2, none⟩ = some u2 ∧ w.cell? ⟨b', 3, none⟩ = some u3 ∧ w.cell? ⟨b', 4, none⟩ = some u4 ∧ Kp W0 w) :
    (w.drew.cell? ⟨b, 0, none⟩ = some v0 ∧ w.drew.cell? ⟨b, 1, none⟩ = some v1 ∧ w.drew.cell? ⟨b, 2, none⟩ = some v2 ∧ w.drew.cell? ⟨b, 3, none⟩ = some v3 ∧ w.drew.cell? ⟨b, 4, none⟩ = some v4 ∧ Kp W0 w.drew) ∧
      w.drew.cell? ⟨b', 0, none⟩ = some u0 ∧ w.drew.cell? ⟨b', 1, none⟩ = some u1 ∧ w.drew.cell? ⟨b', 2, none⟩ = some u2 ∧ w.drew.cell? ⟨b', 3, none⟩ = some u3 ∧ w.drew.cell? ⟨b', 4, none⟩ = some u4 ∧ Kp W0 w.drew :=
  ⟨drew5 h.1, drew5 h.2⟩
/-- A box for a second map behind the first. -/
theorem box10 {W0 w : World} {b : Nat} {v0 v1 v2 v3 v4 : Value} (u0 u1 u2 u3 u4 : Value) (T : TypeId)
    (h : w.cell? ⟨b, 0, none⟩ = some v0 ∧ w.cell? ⟨b, 1, none⟩ = some v1 ∧ w.cell? ⟨b, 2, none⟩ = some v2 ∧ w.cell? ⟨b, 3, none⟩ = some v3 ∧ w.cell? ⟨b, 4, none⟩ = some v4 ∧ Kp W0 w) :
    ((w.alloc (.cells #[u0, u1, u2, u3, u4] T)).cell? ⟨b, 0, none⟩ = some v0 ∧ (w.alloc (.cells #[u0, u1, u2, u3, u4] T)).cell? ⟨b, 1, none⟩ = some v1 ∧ (w.alloc (.cells #[u0, u1, u2, u3, u4] T)).cell? ⟨b, 2, none⟩ = some v2 ∧ (w.alloc (.cells #[u0, u1, u2, u3, u4] T)).cell? ⟨b, 3, none⟩ = some v3 ∧ (w.alloc (.cells #[u0, u1, u2, u3, u4] T)).cell? ⟨b, 4, none⟩ = some v4 ∧ Kp W0 (w.alloc (.cells #[u0, u1, u2, u3, u4] T))) ∧
      (w.alloc (.cells #[u0, u1, u2, u3, u4] T)).cell? ⟨w.heap.size, 0, none⟩ = some u0 ∧ (w.alloc (.cells #[u0, u1, u2, u3, u4] T)).cell? ⟨w.heap.size, 1, none⟩ = some u1 ∧ (w.alloc (.cells #[u0, u1, u2, u3, u4] T)).cell? ⟨w.heap.size, 2, none⟩ = some u2 ∧ (w.alloc (.cells #[u0, u1, u2, u3, u4] T)).cell? ⟨w.heap.size, 3, none⟩ = some u3 ∧ (w.alloc (.cells #[u0, u1, u2, u3, u4] T)).cell? ⟨w.heap.size, 4, none⟩ = some u4 ∧ Kp W0 (w.alloc (.cells #[u0, u1, u2, u3, u4] T)) := by
  obtain ⟨n0, n1, n2, n3, n4, n5⟩ := new5 w u0 u1 u2 u3 u4 T
  exact ⟨keep5 n5 h, n0, n1, n2, n3, n4, h.2.2.2.2.2.trans n5⟩

theorem szMap_s (W H : Int) (At Ar Ad : Option Addr) (nt ct nr cr nd cd : Nat) (S0 : Int) (w : World) (h1 : nt ≤ 9223372036854775807) (h2 : nr ≤ 9223372036854775807) (h3 : nd ≤ 9223372036854775807) (hs : szTot nt nr nd = S0) :
    Calls Tryz.prog 12 #[mp W H (.slice At nt ct) (.slice Ar nr cr) (.slice Ad nd cd), .int .i64 1048576] w fun e w' => e = .returned (.int .i64 S0) ∧ Kp w w' := by
  rw [← hs]
  exact szMap_any W H At Ar Ad nt ct nr cr nd cd w h1 h2 h3

theorem cellsMap : Tryz.prog.cellsOf 28 = 5 := by kernel_rfl
theorem five {α : Type} {l : List α} (h : l.length = 5) {a b c d e : α} (h0 : l[0]? = some a) (h1 : l[1]? = some b) (h2 : l[2]? = some c) (h3 : l[3]? = some d) (h4 : l[4]? = some e) : l = [a, b, c, d, e] := by
  match l, h with
  | [x0, x1, x2, x3, x4], _ => simp_all

set_option maxRecDepth 100000 in
/-- An argument of type Map: two numbers and three lists. -/
theorem open_map5 {H : Type} {enc : TypeId × Value → H} {W : World} {base : Nat} {v : Value} {d : DataW H} {p : List MemPlace}
    (hv : Value.okWide Tryz.prog W .any base 28 v) (h : DataW.Trod enc Tryz.prog W 0 (fun _ => true) true 28 v d p) :
    ∃ (wd ht : Int) (t r e : Value) (lt lr ld : List Int), v = mp wd ht t r e ∧ Reads W t r e lt lr ld := by
  obtain ⟨cs, n, rfl, hl, hf⟩ := open_fields Tryz.underlying28 (by kernel_rfl) cellsMap rfl hv h
  obtain ⟨c0, y0, q0, h0⟩ := hf 0 _ rfl
  obtain ⟨c1, y1, q1, h1⟩ := hf 1 _ rfl
  obtain ⟨c2, y2, q2, h2⟩ := hf 2 _ rfl
  obtain ⟨c3, y3, q3, h3⟩ := hf 3 _ rfl
  obtain ⟨c4, y4, q4, h4⟩ := hf 4 _ rfl
  obtain rfl := five hl q0 q1 q2 q3 q4
  obtain ⟨a, e0, rfl, wa⟩ := DataW.trod_int Tryz.underlying3 h0
  obtain ⟨b, e1, rfl, wb⟩ := DataW.trod_int Tryz.underlying3 h1
  simp only [List.cons.injEq, and_true] at e0 e1
  subst e0 e1
  obtain ⟨lt, r1, r2, r3⟩ := rdB_of_trod h2
  obtain ⟨lr, s1, s2, s3⟩ := rdB_of_trod h3
  obtain ⟨ld, t1, t2, t3⟩ := rdB_of_trod h4
  exact ⟨a, b, c2, c3, c4, lt, lr, ld, rfl, ⟨r1, s1, t1, r2, s2, t2, r3, s3, t3⟩⟩

end Go.Proofs.YtmolpkjdjkhnpaaGreatDoor
