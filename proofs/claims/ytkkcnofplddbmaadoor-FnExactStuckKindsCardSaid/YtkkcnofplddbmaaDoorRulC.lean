/-
  The laws' copy of rules: the same lists and numbers, in memory of its own. Nothing that was there is changed.
-/
import Derived.Test.YtkkcnofplddbmaaDoorRulE
import Derived.Test.YtkkcnofplddbmaaDoorToMap
namespace Go.Proofs.YtkkcnofplddbmaaDoor
open Go.RowKit

set_option maxRecDepth 100000 in
set_option maxHeartbeats 1000000 in
theorem toTerrain_any (nm : ByteArray) (A : Option Addr) (nc cc : Nat) (s h : Int) (b : Bool) (l : List Int) (w : World) (hr : RdI w (.slice A nc cc) l) (hn : nc ≤ 1048576) :
    Calls Tryd.prog 94 #[tv nm A nc cc s h b] w fun e w' => ∃ A' c', e = .returned (tv nm A' nc c' s h b) ∧ OwnI w' (w.heap.size + 1) (.slice A' nc c') l ∧ Kp w w' := by
  have hl := hr.of_slice
  have C : Hid (∀ w, RdI w (.slice A nc cc) l → Calls Tryd.prog 81 #[.slice A nc cc] w fun e w' => ∃ A c, e = .returned (.slice A nc c) ∧ OwnI w' w.heap.size (.slice A nc c) l ∧ Kp w w') := Lib.hid fun w h => by
    have := toIntS_sl _ l w h (by omega)
    rw [hl] at this
    exact this
  have HR := Lib.hid hr
  clear hr hl
  go_enter Tryd.func94, Tryd.ntmps94
  go_wp2_with fail
  have k0 : Kp w (((w.alloc (.cells #[.string nm, .slice A nc cc, .int .i64 s, .int .i64 h, .bool b] 105)).alloc (.cells #[.string ByteArray.empty, .slice none 0 0, .int .i64 0, .int .i64 0, .bool false] 79)).alloc (.cells #[.string nm, .slice none 0 0, .int .i64 0, .int .i64 0, .bool false] 79)) := (((Kp.refl w).alloc _).alloc _).alloc _
  refine (C.out _ (HR.out.keep k0)).mono ?_
  rintro e1 w1 ⟨A1, c1, rfl, o1, k1⟩
  have a2 : w1.cell? ⟨w.heap.size, 2, none⟩ = some (.int .i64 s) := k1.cell (by simp [go_sem])
  have a3 : w1.cell? ⟨w.heap.size, 3, none⟩ = some (.int .i64 h) := k1.cell (by simp [go_sem])
  have a4 : w1.cell? ⟨w.heap.size, 4, none⟩ = some (.bool b) := k1.cell (by simp [go_sem])
  have L1 : Live5 w1 (w.heap.size + 1) (.string ByteArray.empty) (.slice none 0 0) (.int .i64 0) (.int .i64 0) (.bool false) := live5_keep k1 ⟨by simp [go_sem], by simp [go_sem], by simp [go_sem], by simp [go_sem], by simp [go_sem]⟩
  have M1 : Live5 w1 (w.heap.size + 1 + 1) (.string nm) (.slice none 0 0) (.int .i64 0) (.int .i64 0) (.bool false) := live5_keep k1 ⟨by simp [go_sem], by simp [go_sem], by simp [go_sem], by simp [go_sem], by simp [go_sem]⟩
  have K1 : Kp w w1 := k0.trans k1
  have z1 : w.heap.size + 3 ≤ w1.heap.size := by have := k1.size; simp at this; omega
  have O1 := Lib.hid (o1.base (b := w.heap.size + 3) (by simp <;> omega))
  clear k0 k1 o1
  go_wp2_with fail
  have n1 : ∀ g, g < w.heap.size + 3 → (Value.slice A1 nc c1).ownBlock ≠ some g := fun g hg => O1.out.not (by omega)
  refine bodyPost_ret (v := tv nm A1 nc c1 s h b) (by simp [results, Tryd.results94, go_sem, *]) rfl ⟨_, _, rfl, ?_, ?_⟩
  · exact (((((((((O1.out.far (n1 _ (by omega)) _).far (n1 _ (by omega)) _).far (n1 _ (by omega)) _).far (n1 _ (by omega)) _).far (n1 _ (by omega)) _).far (n1 _ (by omega)) _).far (n1 _ (by omega)) _).far (n1 _ (by omega)) _).far (n1 _ (by omega)) _).base (by omega)
  · exact ((((((((K1.setCell (by simp <;> omega) _).setCell (by simp <;> omega) _).setCell (by simp <;> omega) _).setCell (by simp <;> omega) _).setCell (by simp <;> omega) _).setCell (by simp <;> omega) _).setCell (by simp <;> omega) _).setCell (by simp <;> omega) _).setCell (by simp <;> omega) _

set_option maxRecDepth 100000 in
set_option maxHeartbeats 1000000 in
theorem toKind_any (nm : ByteArray) (a b c : Int) (z : Bool) (v : Int) (w : World) :
    Calls Tryd.prog 95 #[kv nm a b c z v] w fun e w' => e = .returned (kv nm a b c z v) ∧ Kp w w' := by
  go_enter Tryd.func95, Tryd.ntmps95
  go_wp2_with fail
  exact bodyPost_ret (v := kv nm a b c z v) (by simp [results, Tryd.results95, go_sem]) rfl ⟨rfl, (((Kp.refl w).alloc _).alloc _).alloc _⟩

theorem infoTer : (Tryd.prog.info? 79).map (fun i => (i.zero, i.size, i.bytes)) = some (some (tv ByteArray.empty none 0 0 0 0 false), 5, 64) := by kernel_rfl
theorem infoKnd : (Tryd.prog.info? 81).map (fun i => (i.zero, i.size, i.bytes)) = some (some (kv ByteArray.empty 0 0 0 false 0), 6, 56) := by kernel_rfl
theorem mkTers (n : Nat) (hn : n ≤ 1048576) (w : World) :
    (Instr.makeSlice 28 (.int .i64 (n : Int)) (.int .i64 (n : Int))).run Tryd.prog w = .ok (.slice (some ⟨w.heap.size, 0, none⟩) n n) (w.alloc (.cells (madeCells (tv ByteArray.empty none 0 0 0 0 false).cells (n * 5)) 79)) := by
  obtain ⟨i, hi, hz, hs, hb⟩ := info_parts infoTer
  have hr := run_make (P := Tryd.prog) w 28 79 i (tv ByteArray.empty none 0 0 0 0 false) Tryd.underlying28 hi hz .i64 .i64 (n : Int) (n : Int) (by omega) (by omega) (by rw [hb]; omega) (by omega)
  rw [hs, Int.toNat_natCast] at hr
  exact hr
theorem mkKnds (n : Nat) (hn : n ≤ 1048576) (w : World) :
    (Instr.makeSlice 29 (.int .i64 (n : Int)) (.int .i64 (n : Int))).run Tryd.prog w = .ok (.slice (some ⟨w.heap.size, 0, none⟩) n n) (w.alloc (.cells (madeCells (kv ByteArray.empty 0 0 0 false 0).cells (n * 6)) 81)) := by
  obtain ⟨i, hi, hz, hs, hb⟩ := info_parts infoKnd
  have hr := run_make (P := Tryd.prog) w 29 81 i (kv ByteArray.empty 0 0 0 false 0) Tryd.underlying29 hi hz .i64 .i64 (n : Int) (n : Int) (by omega) (by omega) (by rw [hb]; omega) (by omega)
  rw [hs, Int.toNat_natCast] at hr
  exact hr

/-- The cells of a copied terrain, at a place of a row's list. -/
def TerIn (ys : List Value) (j : Nat) (x : Ter) (c : Option Addr × Nat) : Prop :=
  ys[j * 5]? = some (.string x.name) ∧ ys[j * 5 + 1]? = some (.slice c.1 x.cost.length c.2) ∧ ys[j * 5 + 2]? = some (.int .i64 x.shift) ∧ ys[j * 5 + 3]? = some (.int .i64 x.height) ∧ ys[j * 5 + 4]? = some (.bool x.blocks)
def KndIn (ys : List Value) (j : Nat) (x : Knd) : Prop :=
  ys[j * 6]? = some (.string x.name) ∧ ys[j * 6 + 1]? = some (.int .i64 x.str) ∧ ys[j * 6 + 2]? = some (.int .i64 x.mov) ∧ ys[j * 6 + 3]? = some (.int .i64 x.stp) ∧ ys[j * 6 + 4]? = some (.bool x.zone) ∧ ys[j * 6 + 5]? = some (.int .i64 x.view)
def set5 (ys : List Value) (k : Nat) (a b c d e : Value) : List Value := ((((ys.set (k * 5) a).set (k * 5 + 1) b).set (k * 5 + 2) c).set (k * 5 + 3) d).set (k * 5 + 4) e
def set6 (ys : List Value) (k : Nat) (a b c d e f : Value) : List Value := (((((ys.set (k * 6) a).set (k * 6 + 1) b).set (k * 6 + 2) c).set (k * 6 + 3) d).set (k * 6 + 4) e).set (k * 6 + 5) f
theorem set5_other {ys : List Value} {k j : Nat} {a b c d e : Value} (h : ∀ i, i < 5 → k * 5 + i ≠ j) : (set5 ys k a b c d e)[j]? = ys[j]? := by
  unfold set5
  have h0 := h 0 (by omega); have h1 := h 1 (by omega); have h2 := h 2 (by omega); have h3 := h 3 (by omega); have h4 := h 4 (by omega)
  rw [List.getElem?_set_ne h4, List.getElem?_set_ne h3, List.getElem?_set_ne h2, List.getElem?_set_ne h1, List.getElem?_set_ne (by omega)]
theorem set6_other {ys : List Value} {k j : Nat} {a b c d e f : Value} (h : ∀ i, i < 6 → k * 6 + i ≠ j) : (set6 ys k a b c d e f)[j]? = ys[j]? := by
  unfold set6
  have h0 := h 0 (by omega); have h1 := h 1 (by omega); have h2 := h 2 (by omega); have h3 := h 3 (by omega); have h4 := h 4 (by omega); have h5 := h 5 (by omega)
  rw [List.getElem?_set_ne h5, List.getElem?_set_ne h4, List.getElem?_set_ne h3, List.getElem?_set_ne h2, List.getElem?_set_ne h1, List.getElem?_set_ne (by omega)]
theorem terIn_new {ys : List Value} {k n : Nat} {x : Ter} {c : Option Addr × Nat} (hl : ys.length = n * 5) (hk : k < n) : TerIn (set5 ys k (.string x.name) (.slice c.1 x.cost.length c.2) (.int .i64 x.shift) (.int .i64 x.height) (.bool x.blocks)) k x c := by
  unfold TerIn set5
  refine ⟨?_, ?_, ?_, ?_, ?_⟩
  · rw [List.getElem?_set_ne (by omega), List.getElem?_set_ne (by omega), List.getElem?_set_ne (by omega), List.getElem?_set_ne (by omega), List.getElem?_set_self (by omega)]
  · rw [List.getElem?_set_ne (by omega), List.getElem?_set_ne (by omega), List.getElem?_set_ne (by omega), List.getElem?_set_self (by simp only [List.length_set]; omega)]
  · rw [List.getElem?_set_ne (by omega), List.getElem?_set_ne (by omega), List.getElem?_set_self (by simp only [List.length_set]; omega)]
  · rw [List.getElem?_set_ne (by omega), List.getElem?_set_self (by simp only [List.length_set]; omega)]
  · rw [List.getElem?_set_self (by simp only [List.length_set]; omega)]
theorem kndIn_new {ys : List Value} {k n : Nat} {x : Knd} (hl : ys.length = n * 6) (hk : k < n) : KndIn (set6 ys k (.string x.name) (.int .i64 x.str) (.int .i64 x.mov) (.int .i64 x.stp) (.bool x.zone) (.int .i64 x.view)) k x := by
  unfold KndIn set6
  refine ⟨?_, ?_, ?_, ?_, ?_, ?_⟩
  · rw [List.getElem?_set_ne (by omega), List.getElem?_set_ne (by omega), List.getElem?_set_ne (by omega), List.getElem?_set_ne (by omega), List.getElem?_set_ne (by omega), List.getElem?_set_self (by omega)]
  · rw [List.getElem?_set_ne (by omega), List.getElem?_set_ne (by omega), List.getElem?_set_ne (by omega), List.getElem?_set_ne (by omega), List.getElem?_set_self (by simp only [List.length_set]; omega)]
  · rw [List.getElem?_set_ne (by omega), List.getElem?_set_ne (by omega), List.getElem?_set_ne (by omega), List.getElem?_set_self (by simp only [List.length_set]; omega)]
  · rw [List.getElem?_set_ne (by omega), List.getElem?_set_ne (by omega), List.getElem?_set_self (by simp only [List.length_set]; omega)]
  · rw [List.getElem?_set_ne (by omega), List.getElem?_set_self (by simp only [List.length_set]; omega)]
  · rw [List.getElem?_set_self (by simp only [List.length_set]; omega)]
theorem terIn_old {ys : List Value} {k j : Nat} {a b c' d e : Value} {x : Ter} {c : Option Addr × Nat} (h : TerIn ys j x c) (hj : j < k) : TerIn (set5 ys k a b c' d e) j x c := by
  obtain ⟨h0, h1, h2, h3, h4⟩ := h
  exact ⟨(set5_other (by omega)).trans h0, (set5_other (by omega)).trans h1, (set5_other (by omega)).trans h2, (set5_other (by omega)).trans h3, (set5_other (by omega)).trans h4⟩
theorem kndIn_old {ys : List Value} {k j : Nat} {a b c d e f : Value} {x : Knd} (h : KndIn ys j x) (hj : j < k) : KndIn (set6 ys k a b c d e f) j x := by
  obtain ⟨h0, h1, h2, h3, h4, h5⟩ := h
  exact ⟨(set6_other (by omega)).trans h0, (set6_other (by omega)).trans h1, (set6_other (by omega)).trans h2, (set6_other (by omega)).trans h3, (set6_other (by omega)).trans h4, (set6_other (by omega)).trans h5⟩

/-- Copied terrains: a row in block g, each terrain's costs in a block of their own behind it. -/
structure OwnT (w : World) (g n : Nat) (l : List Ter) (cs : List (Option Addr × Nat)) (ys : List Value) : Prop where
  row : w.ownsRow g 79 5 (.slice (some ⟨g, 0, none⟩) n n) n ys
  here : ∀ (j : Nat) (x : Ter) (c : Option Addr × Nat), l[j]? = some x → cs[j]? = some c → TerIn ys j x c
  each : ∀ (j : Nat) (x : Ter) (c : Option Addr × Nat), l[j]? = some x → cs[j]? = some c → OwnI w (g + 1) (.slice c.1 x.cost.length c.2) x.cost
  apart : ∀ (i j : Nat) (c d : Option Addr × Nat), i < j → cs[i]? = some c → cs[j]? = some d → ∀ (x y k : Nat), (Value.slice c.1 x c.2).ownBlock = some k → (Value.slice d.1 y d.2).ownBlock ≠ some k
structure OwnK (w : World) (g n : Nat) (l : List Knd) (ys : List Value) : Prop where
  row : w.ownsRow g 81 6 (.slice (some ⟨g, 0, none⟩) n n) n ys
  here : ∀ (j : Nat) (x : Knd), l[j]? = some x → KndIn ys j x
theorem OwnT.keep {w w' : World} {g n : Nat} {l : List Ter} {cs : List (Option Addr × Nat)} {ys : List Value} (h : OwnT w g n l cs ys) (k : Kp w w') : OwnT w' g n l cs ys :=
  ⟨ownsRow_keep h.row k, h.here, fun j x c hx hc => (h.each j x c hx hc).keep k, h.apart⟩
theorem OwnK.keep {w w' : World} {g n : Nat} {l : List Knd} {ys : List Value} (h : OwnK w g n l ys) (k : Kp w w') : OwnK w' g n l ys := ⟨ownsRow_keep h.row k, h.here⟩
theorem OwnT.rd {w : World} {g n : Nat} {l : List Ter} {cs : List (Option Addr × Nat)} {ys : List Value} (h : OwnT w g n l cs ys) (hl : l.length = n) (hc : cs.length = n) : RdT w (some ⟨g, 0, none⟩) n l :=
  ⟨hl, fun _ => ⟨g, 0, rfl, fun i x hx => by
    have hi := lt_of_at hx
    have hcs : cs[i]? = some (cs[i]'(by omega)) := List.getElem?_eq_getElem _
    obtain ⟨h0, h1, h2, h3, h4⟩ := h.here i x _ hx hcs
    have hlen : ys.length = n * 5 := h.row.1
    have e := (h.each i x _ hx hcs).rd
    rw [Nat.zero_add]
    refine ⟨_, _, ⟨?_, ?_, ?_, ?_, ?_⟩, e⟩
    · exact (h.row.cellAt (i * 5) (by omega)).trans h0
    · exact (h.row.cellAt (i * 5 + 1) (by omega)).trans h1
    · exact (h.row.cellAt (i * 5 + 2) (by omega)).trans h2
    · exact (h.row.cellAt (i * 5 + 3) (by omega)).trans h3
    · exact (h.row.cellAt (i * 5 + 4) (by omega)).trans h4⟩⟩
theorem OwnK.rd {w : World} {g n : Nat} {l : List Knd} {ys : List Value} (h : OwnK w g n l ys) (hl : l.length = n) : RdK w (some ⟨g, 0, none⟩) n l :=
  ⟨hl, fun _ => ⟨g, 0, rfl, fun i x hx => by
    have hi := lt_of_at hx
    obtain ⟨h0, h1, h2, h3, h4, h5⟩ := h.here i x hx
    rw [Nat.zero_add]
    refine ⟨?_, ?_, ?_, ?_, ?_, ?_⟩
    · exact (h.row.cellAt (i * 6) (by omega)).trans h0
    · exact (h.row.cellAt (i * 6 + 1) (by omega)).trans h1
    · exact (h.row.cellAt (i * 6 + 2) (by omega)).trans h2
    · exact (h.row.cellAt (i * 6 + 3) (by omega)).trans h3
    · exact (h.row.cellAt (i * 6 + 4) (by omega)).trans h4
    · exact (h.row.cellAt (i * 6 + 5) (by omega)).trans h5⟩⟩

theorem stored5 {w : World} {base g n : Nat} {e : TypeId} {ys : List Value} {cap : Nat} (h : w.ownsRow base e 5 (.slice (some ⟨g, 0, none⟩) n cap) n ys) (k : Nat) (a b c d f : Value) :
    ((((((w.setCell ⟨g, k * 5, none⟩ a).setCell ⟨g, k * 5 + 1, none⟩ b).setCell ⟨g, k * 5 + 2, none⟩ c).setCell ⟨g, k * 5 + 3, none⟩ d).setCell ⟨g, k * 5 + 4, none⟩ f)).ownsRow base e 5 (.slice (some ⟨g, 0, none⟩) n cap) n (set5 ys k a b c d f) :=
  (((((h.stored (k * 5) a).1.stored (k * 5 + 1) b).1.stored (k * 5 + 2) c).1.stored (k * 5 + 3) d).1.stored (k * 5 + 4) f).1
theorem stored6 {w : World} {base g n : Nat} {e : TypeId} {ys : List Value} {cap : Nat} (h : w.ownsRow base e 6 (.slice (some ⟨g, 0, none⟩) n cap) n ys) (k : Nat) (a b c d f p : Value) :
    (((((((w.setCell ⟨g, k * 6, none⟩ a).setCell ⟨g, k * 6 + 1, none⟩ b).setCell ⟨g, k * 6 + 2, none⟩ c).setCell ⟨g, k * 6 + 3, none⟩ d).setCell ⟨g, k * 6 + 4, none⟩ f)).setCell ⟨g, k * 6 + 5, none⟩ p).ownsRow base e 6 (.slice (some ⟨g, 0, none⟩) n cap) n (set6 ys k a b c d f p) :=
  ((((((h.stored (k * 6) a).1.stored (k * 6 + 1) b).1.stored (k * 6 + 2) c).1.stored (k * 6 + 3) d).1.stored (k * 6 + 4) f).1.stored (k * 6 + 5) p).1

theorem liveN {w : World} {base g n sz : Nat} {e : TypeId} {ys : List Value} {cap : Nat} (h : w.ownsRow base e sz (.slice (some ⟨g, 0, none⟩) n cap) n ys) {j : Nat} (hj : j < n * sz) : (∃ u, w.cell? ⟨g, j, none⟩ = some u) ∧ w.frozen? ⟨g, j, none⟩ = false := by
  have hlen : ys.length = n * sz := h.1
  exact ⟨⟨_, (h.cellAt j (by omega)).trans (List.getElem?_eq_getElem (by omega))⟩, h.frozenAt j⟩

theorem ownBlock_len (A : Option Addr) (x y c : Nat) : (Value.slice A x c).ownBlock = (Value.slice A y c).ownBlock := by cases A <;> rfl
theorem OwnT.step {w w1 : World} {g n k : Nat} {l : List Ter} {cs : List (Option Addr × Nat)} {ys : List Value} {x : Ter} {A : Option Addr} {c : Nat} (h : OwnT w g n l cs ys) (hcs : cs.length = k) (hx : l[k]? = some x) (hk : k < n) (k1 : Kp w w1) (hg : g < w.heap.size)
    (ho : OwnI w1 (w.heap.size + 1) (.slice A x.cost.length c) x.cost) :
    OwnT (((((w1.setCell ⟨g, k * 5, none⟩ (.string x.name)).setCell ⟨g, k * 5 + 1, none⟩ (.slice A x.cost.length c)).setCell ⟨g, k * 5 + 2, none⟩ (.int .i64 x.shift)).setCell ⟨g, k * 5 + 3, none⟩ (.int .i64 x.height)).setCell ⟨g, k * 5 + 4, none⟩ (.bool x.blocks)) g n l (cs ++ [(A, c)])
      (set5 ys k (.string x.name) (.slice A x.cost.length c) (.int .i64 x.shift) (.int .i64 x.height) (.bool x.blocks)) := by
  have hlen : ys.length = n * 5 := h.row.1
  refine ⟨stored5 (ownsRow_keep h.row k1) k _ _ _ _ _, ?_, ?_, ?_⟩
  · intro j y d hy hd
    rcases Nat.lt_or_ge j k with hj | hj
    · rw [List.getElem?_append_left (by omega)] at hd
      exact terIn_old (h.here j y d hy hd) hj
    · have hj2 : j = k := by have := lt_of_at hd; simp at this; omega
      subst hj2
      rw [List.getElem?_append_right (by omega), hcs, Nat.sub_self] at hd
      obtain rfl : (A, c) = d := by simpa using hd
      rw [hx] at hy
      obtain rfl := Option.some.inj hy
      exact terIn_new (c := (A, c)) hlen hk
  · intro j y d hy hd
    have far : ∀ {v l'} , OwnI w1 (g + 1) v l' → OwnI (((((w1.setCell ⟨g, k * 5, none⟩ (.string x.name)).setCell ⟨g, k * 5 + 1, none⟩ (.slice A x.cost.length c)).setCell ⟨g, k * 5 + 2, none⟩ (.int .i64 x.shift)).setCell ⟨g, k * 5 + 3, none⟩ (.int .i64 x.height)).setCell ⟨g, k * 5 + 4, none⟩ (.bool x.blocks)) (g + 1) v l' := fun {v l'} o => by
      have n1 := o.not (g := g) (by omega)
      exact ((((o.far n1 _).far n1 _).far n1 _).far n1 _).far n1 _
    rcases Nat.lt_or_ge j k with hj | hj
    · rw [List.getElem?_append_left (by omega)] at hd
      exact far ((h.each j y d hy hd).keep k1)
    · have hj2 : j = k := by have := lt_of_at hd; simp at this; omega
      subst hj2
      rw [List.getElem?_append_right (by omega), hcs, Nat.sub_self] at hd
      obtain rfl : (A, c) = d := by simpa using hd
      rw [hx] at hy
      obtain rfl := Option.some.inj hy
      exact far (ho.base (by omega))
  · intro i j c1 d1 hij hc hd x1 y1 b hb hb'
    have hjl : j < k + 1 := by have := lt_of_at hd; simp at this; omega
    rw [List.getElem?_append_left (by omega)] at hc
    rcases Nat.lt_or_ge j k with hj | hj
    · rw [List.getElem?_append_left (by omega)] at hd
      exact h.apart i j c1 d1 hij hc hd x1 y1 b hb hb'
    · have hj2 : j = k := by omega
      subst hj2
      rw [List.getElem?_append_right (by omega), hcs, Nat.sub_self] at hd
      obtain rfl : (A, c) = d1 := by simpa using hd
      have hxi : l[i]? = some (l[i]'(by have := lt_of_at hx; omega)) := List.getElem?_eq_getElem _
      have h1 := (World.ownsRow.lt (h.each i _ c1 hxi hc) b ((ownBlock_len _ _ _ _).trans hb)).2
      have h2 := (World.ownsRow.lt ho b ((ownBlock_len _ _ _ _).trans hb')).1
      omega
theorem OwnK.step {w : World} {g n k : Nat} {l : List Knd} {ys : List Value} {x : Knd} (h : OwnK w g n (l.take k) ys) (hx : l[k]? = some x) (hk : k < n) :
    OwnK ((((((w.setCell ⟨g, k * 6, none⟩ (.string x.name)).setCell ⟨g, k * 6 + 1, none⟩ (.int .i64 x.str)).setCell ⟨g, k * 6 + 2, none⟩ (.int .i64 x.mov)).setCell ⟨g, k * 6 + 3, none⟩ (.int .i64 x.stp)).setCell ⟨g, k * 6 + 4, none⟩ (.bool x.zone)).setCell ⟨g, k * 6 + 5, none⟩ (.int .i64 x.view)) g n (l.take (k + 1))
      (set6 ys k (.string x.name) (.int .i64 x.str) (.int .i64 x.mov) (.int .i64 x.stp) (.bool x.zone) (.int .i64 x.view)) := by
  have hlen : ys.length = n * 6 := h.row.1
  refine ⟨stored6 h.row k _ _ _ _ _ _, fun j y hy => ?_⟩
  rw [List.getElem?_take] at hy
  split at hy
  · rename_i hj
    rcases Nat.lt_or_ge j k with h1 | h1
    · exact kndIn_old (h.here j y (by rw [List.getElem?_take, if_pos h1]; exact hy)) h1
    · obtain rfl : j = k := by omega
      rw [hx] at hy
      obtain rfl := Option.some.inj hy
      exact kndIn_new hlen hk
  · cases hy

set_option maxRecDepth 100000 in
set_option maxHeartbeats 1000000 in
theorem toTerrainS_any (A : Option Addr) (n c : Nat) (l : List Ter) (w : World) (h : RdT w A n l) (hn : n ≤ 1048576) (hcb : ∀ x ∈ l, x.cost.length ≤ 1048576) :
    Calls Tryd.prog 52 #[.slice A n c] w fun e w' => ∃ (cs : List (Option Addr × Nat)) (ys : List Value), e = .returned (.slice (some ⟨w.heap.size, 0, none⟩) n n) ∧ cs.length = n ∧ OwnT w' w.heap.size n l cs ys ∧ Kp w w' := by
  have HN := Lib.hid h.1
  have HA := Lib.hid h.2
  have HB := Lib.hid hcb
  have hmk := fun w => mkTers n hn w
  have own0 : (w.alloc (.cells (madeCells (tv ByteArray.empty none 0 0 0 0 false).cells (n * 5)) 79)).ownsRow w.heap.size 79 5 (.slice (some ⟨w.heap.size, 0, none⟩) n n) n (madeCells (tv ByteArray.empty none 0 0 0 0 false).cells (n * 5)).toList :=
    World.ownsRow_lit w _ n (Nat.le_refl _) (by simp only [maxLen]; omega) (by rw [size_madeCells])
  clear h hcb
  go_enter Tryd.func52, Tryd.ntmps52
  go_wp2_with fail
  go_loopw [4] (fun i wr => ∃ (k : Nat) (cs : List (Option Addr × Nat)) (ys : List Value), k ≤ n ∧ i = .int .i64 k ∧ Hid (cs.length = k) ∧ Hid (OwnT wr w.heap.size n l cs ys) ∧ Kp w wr ∧ w.heap.size < wr.heap.size) (fun i _ => n - (intOf i).toNat)
  case atStart => exact ⟨0, [], _, by omega, rfl, Lib.hid rfl, Lib.hid ⟨own0, fun j x c hx hc => by simp at hc, fun j x c hx hc => by simp at hc, fun i j c d _ hc => by simp at hc⟩, (Kp.refl _).alloc _, by simp⟩
  case round =>
    clear own0 hmk
    obtain ⟨k, cs, ys, hk, rfl, HC, HO, kr, hz⟩ := hrel
    by_cases hlt : k < n
    · have hlt' : (k : Int) < n := by omega
      obtain ⟨g, off, rfl, hc⟩ := HA.out (by omega)
      obtain ⟨x, hx⟩ : ∃ x, l[k]? = some x := ⟨l[k]'(by have := HN.out; omega), List.getElem?_eq_getElem _⟩
      obtain ⟨Ac, cc, ⟨a0, a1, a2, a3, a4⟩, ra⟩ := (hc k x hx).keep kr
      have hnc := HB.out x (List.mem_of_getElem? hx)
      have HX := Lib.hid hx
      obtain ⟨nm, cl, sh, hg, bl⟩ := x
      simp only at a0 a1 a2 a3 a4 ra hnc
      have HE := Lib.hid (fun (w1 : World) (A : Option Addr) (c : Nat) (k1 : Kp wr w1) (ho : OwnI w1 (wr.heap.size + 1) (.slice A cl.length c) cl) => OwnT.step (x := ⟨nm, cl, sh, hg, bl⟩) HO.out HC.out HX.out hlt k1 hz ho)
      simp only at HE
      have RA := Lib.hid ra
      generalize cl.length = nc at a1 RA hnc HE
      have HR := Lib.hid HO.out.row
      clear hc hx ra
      go_wp2_with fail
      refine (toTerrain_any _ _ _ _ _ _ _ cl _ RA.out hnc).mono ?_
      rintro e1 w1 ⟨A1, c1, rfl, o1, k1⟩
      have HR1 := ownsRow_keep HR.out k1
      obtain ⟨⟨u0, b0⟩, f0⟩ := liveN HR1 (j := k * 5) (by omega)
      obtain ⟨⟨u1, b1⟩, f1⟩ := liveN HR1 (j := k * 5 + 1) (by omega)
      obtain ⟨⟨u2, b2⟩, f2⟩ := liveN HR1 (j := k * 5 + 2) (by omega)
      obtain ⟨⟨u3, b3⟩, f3⟩ := liveN HR1 (j := k * 5 + 3) (by omega)
      obtain ⟨⟨u4, b4⟩, f4⟩ := liveN HR1 (j := k * 5 + 4) (by omega)
      have HT := Lib.hid (HE.out w1 A1 c1 k1 o1)
      have K1 : Kp w w1 := kr.trans k1
      have hz1 : w.heap.size < w1.heap.size := by have := k1.size; omega
      have HC2 : Hid ((cs ++ [(A1, c1)]).length = k + 1) := Lib.hid (by have := HC.out; simp; omega)
      clear HR1 HE o1 k1 a0 a1 a2 a3 a4 RA HO HR
      go_wp2_with fail
      go_roundw
      case rel => exact ⟨k + 1, _, _, by omega, by go_num, HC2, HT, ((((K1.setCell (by simp) _).setCell (by simp) _).setCell (by simp) _).setCell (by simp) _).setCell (by simp) _, by simpa using hz1⟩
      case measure => simp [intOf]; omega
    · obtain rfl : k = n := by omega
      go_wp2_with fail
      go_ret
      exact ⟨cs, ys, rfl, HC.out, HO.out, kr⟩

set_option maxRecDepth 100000 in
set_option maxHeartbeats 1000000 in
theorem toKindS_any (A : Option Addr) (n c : Nat) (l : List Knd) (w : World) (h : RdK w A n l) (hn : n ≤ 1048576) :
    Calls Tryd.prog 53 #[.slice A n c] w fun e w' => ∃ (ys : List Value), e = .returned (.slice (some ⟨w.heap.size, 0, none⟩) n n) ∧ OwnK w' w.heap.size n l ys ∧ Kp w w' := by
  have HN := Lib.hid h.1
  have HA := Lib.hid h.2
  have hmk := fun w => mkKnds n hn w
  have own0 : (w.alloc (.cells (madeCells (kv ByteArray.empty 0 0 0 false 0).cells (n * 6)) 81)).ownsRow w.heap.size 81 6 (.slice (some ⟨w.heap.size, 0, none⟩) n n) n (madeCells (kv ByteArray.empty 0 0 0 false 0).cells (n * 6)).toList :=
    World.ownsRow_lit w _ n (Nat.le_refl _) (by simp only [maxLen]; omega) (by rw [size_madeCells])
  clear h
  go_enter Tryd.func53, Tryd.ntmps53
  go_wp2_with fail
  go_loopw [4] (fun i wr => ∃ (k : Nat) (ys : List Value), k ≤ n ∧ i = .int .i64 k ∧ Hid (OwnK wr w.heap.size n (l.take k) ys) ∧ Kp w wr ∧ w.heap.size < wr.heap.size) (fun i _ => n - (intOf i).toNat)
  case atStart => exact ⟨0, _, by omega, rfl, Lib.hid ⟨own0, fun j x hx => by simp at hx⟩, (Kp.refl _).alloc _, by simp⟩
  case round =>
    clear own0 hmk
    obtain ⟨k, ys, hk, rfl, HO, kr, hz⟩ := hrel
    by_cases hlt : k < n
    · have hlt' : (k : Int) < n := by omega
      obtain ⟨g, off, rfl, hc⟩ := HA.out (by omega)
      obtain ⟨x, hx⟩ : ∃ x, l[k]? = some x := ⟨l[k]'(by have := HN.out; omega), List.getElem?_eq_getElem _⟩
      obtain ⟨a0, a1, a2, a3, a4, a5⟩ := (hc k x hx).keep kr
      have HX := Lib.hid hx
      obtain ⟨nm, ks, km, kt, kz, kw⟩ := x
      simp only at a0 a1 a2 a3 a4 a5
      clear hc hx
      go_wp2_with fail
      refine (toKind_any _ _ _ _ _ _ _).mono ?_
      rintro e1 w1 ⟨rfl, k1⟩
      have HO1 := Lib.hid (HO.out.keep k1)
      have HR1 := HO1.out.row
      obtain ⟨⟨u0, b0⟩, f0⟩ := liveN HR1 (j := k * 6) (by omega)
      obtain ⟨⟨u1, b1⟩, f1⟩ := liveN HR1 (j := k * 6 + 1) (by omega)
      obtain ⟨⟨u2, b2⟩, f2⟩ := liveN HR1 (j := k * 6 + 2) (by omega)
      obtain ⟨⟨u3, b3⟩, f3⟩ := liveN HR1 (j := k * 6 + 3) (by omega)
      obtain ⟨⟨u4, b4⟩, f4⟩ := liveN HR1 (j := k * 6 + 4) (by omega)
      obtain ⟨⟨u5, b5⟩, f5⟩ := liveN HR1 (j := k * 6 + 5) (by omega)
      have HT := Lib.hid (OwnK.step HO1.out HX.out hlt)
      simp only at HT
      have K1 : Kp w w1 := kr.trans k1
      have hz1 : w.heap.size < w1.heap.size := by have := k1.size; omega
      clear HR1 k1 a0 a1 a2 a3 a4 a5 HO HO1
      go_wp2_with fail
      go_roundw
      case rel => exact ⟨k + 1, _, by omega, by go_num, HT, (((((K1.setCell (by simp) _).setCell (by simp) _).setCell (by simp) _).setCell (by simp) _).setCell (by simp) _).setCell (by simp) _, by simpa using hz1⟩
      case measure => simp [intOf]; omega
    · obtain rfl : k = n := by omega
      go_wp2_with fail
      go_ret
      have e : l.take k = l := List.take_of_length_le (by have := HN.out; omega)
      have HO2 := HO.out
      rw [e] at HO2
      exact ⟨ys, rfl, HO2, kr⟩

end Go.Proofs.YtkkcnofplddbmaaDoor
