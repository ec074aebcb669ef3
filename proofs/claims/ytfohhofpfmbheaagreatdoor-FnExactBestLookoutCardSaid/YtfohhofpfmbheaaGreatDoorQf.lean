/-
  Texts of this seat in one module: MarkN, MarkI, Mk, BrdW, BrdX, TabS, RowC, MapH, Dist, NearOnF, NearOnG, OwnB, NearI, Cells, HH, Line.
-/
import Derived.Laws.BytesArg
import Derived.Deep.QuietTactic
import Derived.BigQuiet
import Derived.IntWalk
import Derived.Test.YtfohhofpfmbheaaGreatDoorQa
import Derived.Test.YtfohhofpfmbheaaGreatDoorQb
import Derived.Test.YtfohhofpfmbheaaGreatDoorQc
import Derived.Test.YtfohhofpfmbheaaGreatDoorQe

/-
  Marking the cells of slices of integers that the call owns with k, k+1, .., and finding the marks again.
-/
namespace Go.Proofs.YtfohhofpfmbheaaGreatDoor
open Go.RowKit

theorem marks1_step (k0 : Int) (xs : List Value) (t n : Nat) (hl : xs.length = n * 1) (ht : t < n) :
    (marks k0 t ++ xs.drop t).set t (.int .i64 (k0 + t)) = marks k0 (t + 1) ++ xs.drop (t + 1) := by
  apply List.ext_getElem?
  intro j
  rw [List.getElem?_set]
  simp only [List.length_append, marks_length, List.length_drop]
  by_cases h1 : t = j
  · subst h1
    rw [if_pos rfl, if_pos (by omega), List.getElem?_append_left (by rw [marks_length]; omega), marks_at _ _ _ (by omega)]
  · rw [if_neg h1]
    by_cases h3 : j < t
    · rw [List.getElem?_append_left (by rw [marks_length]; omega), List.getElem?_append_left (by rw [marks_length]; omega), marks_at _ _ _ h3, marks_at _ _ _ (by omega)]
    · rw [List.getElem?_append_right (by rw [marks_length]; omega), List.getElem?_append_right (by rw [marks_length]; omega), marks_length, marks_length, List.getElem?_drop, List.getElem?_drop]
      congr 1
      omega

theorem markIntS_own (v : Value) (n base : Nat) (k0 : Int) (xs : List Value) (w : World) (h0 : 0 ≤ k0) (h1 : k0 ≤ 1000000000000000) (hn : n ≤ 1048576) (hown : w.ownsRow base 3 1 v n xs) :
    Calls Tryz.prog 27 #[v, .int .i64 k0] w fun e w' => e = .returned (.int .i64 (k0 + n)) ∧ w'.ownsRow base 3 1 v n (marks k0 n) ∧ w.grownBy w' v.ownBlock := by
  rcases hown.2 with ⟨rfl, rfl⟩ | ⟨g, cap, cur, rfl, _⟩
  · go_enter Tryz.func27, Tryz.ntmps27
    go_wp2_with fail
    go_loop [1, 5] (fun k i => k = .int .i64 k0 ∧ i = .int .i64 0) (fun _ _ => 0)
    case atStart => exact ⟨rfl, rfl⟩
    case round =>
      obtain ⟨rfl, rfl⟩ := hrel
      go_wp2_with fail
      go_ret
      exact ⟨ret_int (by simp), World.ownsRow_nil _ _ _ _, World.grownBy.refl w _⟩
  · have hl : xs.length = n * 1 := hown.1
    have HL := Lib.hid hl
    clear hl
    go_enter Tryz.func27, Tryz.ntmps27
    go_wp2_with fail
    go_loopw [1, 5] (fun kk i wr => ∃ t : Nat, t ≤ n ∧ i = .int .i64 t ∧ kk = .int .i64 (k0 + t) ∧ wr.ownsRow base 3 1 (.slice (some ⟨g, 0, none⟩) n cap) n (marks k0 t ++ xs.drop t) ∧ w.grownBy wr (some g)) (fun _ i _ => n - (intOf i).toNat)
    case atStart => exact ⟨0, by omega, rfl, by simp, by simpa [marks] using hown, World.grownBy.refl w _⟩
    case round =>
      obtain ⟨t, ht, rfl, rfl, ho, hg⟩ := hrel
      by_cases hlt : t < n
      · have hlt' : (t : Int) < n := by omega
        have hlen : (marks k0 t ++ xs.drop t).length = n * 1 := ho.1
        obtain ⟨u0, hu0⟩ : ∃ u, wr.cell? ⟨g, t, none⟩ = some u := ⟨_, (ho.cellAt t (by omega)).trans (List.getElem?_eq_getElem (by omega))⟩
        have f0 := ho.frozenAt t
        clear hlen
        go_wp2_with fail
        go_roundw
        case rel =>
          obtain ⟨o1, g1⟩ := ho.stored t (.int .i64 (k0 + t))
          refine ⟨t + 1, by omega, by go_num, by go_num, ?_, hg.trans g1⟩
          rw [← marks1_step k0 xs t n HL.out hlt]
          exact o1
        case measure => simp [intOf]; omega
      · obtain rfl : t = n := by omega
        go_wp2_with fail
        go_ret
        refine ⟨rfl, ?_, hg⟩
        have e : xs.drop t = [] := List.drop_of_length_le (by rw [HL.out]; omega)
        rw [e, List.append_nil] at ho
        exact ho

theorem heldIntS_own (v : Value) (n base : Nat) (k0 : Int) (w : World) (h0 : 0 ≤ k0) (h1 : k0 ≤ 1000000000000000) (hn : n ≤ 1048576) (hown : w.ownsRow base 3 1 v n (marks k0 n)) :
    Calls Tryz.prog 28 #[v, .int .i64 k0] w fun e w' => e = .returned (.int .i64 (k0 + n)) ∧ Kp w w' := by
  rcases hown.2 with ⟨rfl, rfl⟩ | ⟨g, cap, cur, rfl, _⟩
  · go_enter Tryz.func28, Tryz.ntmps28
    go_wp2_with fail
    go_loop [1, 5] (fun k i => k = .int .i64 k0 ∧ i = .int .i64 0) (fun _ _ => 0)
    case atStart => exact ⟨rfl, rfl⟩
    case round =>
      obtain ⟨rfl, rfl⟩ := hrel
      go_wp2_with fail
      go_ret
      exact ⟨ret_int (by simp), Kp.refl _⟩
  · go_enter Tryz.func28, Tryz.ntmps28
    go_wp2_with fail
    go_loopw [1, 5] (fun kk i wr => ∃ t : Nat, t ≤ n ∧ i = .int .i64 t ∧ kk = .int .i64 (k0 + t) ∧ Kp w wr) (fun _ i _ => n - (intOf i).toNat)
    case atStart => exact ⟨0, by omega, rfl, by simp, Kp.refl _⟩
    case round =>
      obtain ⟨t, ht, rfl, rfl, kr⟩ := hrel
      by_cases hlt : t < n
      · have hlt' : (t : Int) < n := by omega
        have c0 : wr.cell? ⟨g, t, none⟩ = some (.int .i64 (k0 + t)) := kr.cell ((hown.cellAt t (by omega)).trans (marks_at _ _ _ (by omega)))
        have hne : ((k0 + (t : Int)) != (k0 + (t : Int))) = false := by simp
        go_wp2_with fail
        go_roundw
        case rel => exact ⟨t + 1, by omega, by go_num, by go_num, kr⟩
        case measure => simp [intOf]; omega
      · obtain rfl : t = n := by omega
        go_wp2_with fail
        go_ret
        exact ⟨rfl, kr⟩

theorem OwnI.block' {w : World} {base : Nat} {v : Value} {l : List Int} (h : OwnI w base v l) (g : Nat) (hg : w.heap.size ≤ g) : v.ownBlock ≠ some g := fun e => by
  have := (World.ownsRow.lt h g e).2
  omega

theorem apart_ne {x y : Value} (h : ∀ g, x.ownBlock = some g → y.ownBlock ≠ some g) : y.ownBlock = none ∨ y.ownBlock ≠ x.ownBlock := by
  cases hy : y.ownBlock
  · exact .inl rfl
  · rename_i g
    exact .inr fun e => h g e.symm hy
theorem apart_sym {x y : Value} (h : ∀ g, x.ownBlock = some g → y.ownBlock ≠ some g) : ∀ g, y.ownBlock = some g → x.ownBlock ≠ some g := fun g hy hx => h g hx hy

end Go.Proofs.YtfohhofpfmbheaaGreatDoor

/-
  Marking the cells of slices of integers that the call owns with k, k+1, .., and finding the marks again; the same for the three lists of a map.
-/
namespace Go.Proofs.YtfohhofpfmbheaaGreatDoor
open Go.RowKit

/-- Only the three slices' own blocks, and new ones, have been written. -/
def Marked (w w' : World) (t r d : Value) : Prop := ∃ w0 wa wb, Kp w w0 ∧ w0.grownBy wa t.ownBlock ∧ wa.grownBy wb r.ownBlock ∧ wb.grownBy w' d.ownBlock
theorem Marked.kp {w w' W0 : World} {t r d : Value} {base : Nat} {lt lr ld : List Int} (h : Marked w w' t r d) (o : Own3 w base t r d lt lr ld) (k : Kp W0 w) (hb : W0.heap.size ≤ base) : Kp W0 w' := by
  obtain ⟨w0, wa, wb, k0, g1, g2, g3⟩ := h
  exact (((k.trans k0).grown g1 (fun k e => Nat.le_trans hb (World.ownsRow.lt o.ot k e).1)).grown g2 (fun k e => Nat.le_trans hb (World.ownsRow.lt o.or k e).1)).grown g3 (fun k e => Nat.le_trans hb (World.ownsRow.lt o.od k e).1)
theorem Marked.own {w w' : World} {t r d v : Value} {base : Nat} {e : TypeId} {sz n : Nat} {xs : List Value} (h : Marked w w' t r d) (o : w.ownsRow base e sz v n xs)
    (h1 : ∀ g, v.ownBlock = some g → t.ownBlock ≠ some g ∧ r.ownBlock ≠ some g ∧ d.ownBlock ≠ some g) : w'.ownsRow base e sz v n xs := by
  obtain ⟨w0, wa, wb, k0, g1, g2, g3⟩ := h
  have ne : ∀ (x : Value), (∀ g, v.ownBlock = some g → x.ownBlock ≠ some g) → v.ownBlock = none ∨ v.ownBlock ≠ x.ownBlock := fun x hx => by
    cases hv : v.ownBlock
    · exact .inl rfl
    · rename_i g
      exact .inr fun e => hx g hv e.symm
  exact (((ownsRow_keep o k0).kept g1 (ne t fun g hg => (h1 g hg).1)).kept g2 (ne r fun g hg => (h1 g hg).2.1)).kept g3 (ne d fun g hg => (h1 g hg).2.2)

/-- The three lists of a map, marked one behind the other. -/
structure Marks3 (w : World) (base : Nat) (t r d : Value) (nt nr nd : Nat) : Prop where
  ot : w.ownsRow base 3 1 t nt (marks 1 nt)
  or : w.ownsRow base 3 1 r nr (marks (1 + nt) nr)
  od : w.ownsRow base 3 1 d nd (marks (1 + nt + nr) nd)
theorem Marks3.keep {w w' : World} {base : Nat} {t r d : Value} {nt nr nd : Nat} (h : Marks3 w base t r d nt nr nd) (k : Kp w w') : Marks3 w' base t r d nt nr nd :=
  ⟨ownsRow_keep h.ot k, ownsRow_keep h.or k, ownsRow_keep h.od k⟩

theorem markMap_any (W H : Int) (t r d : Value) (lt lr ld : List Int) (nt nr nd base : Nat) (w : World) (ho : Own3 w base t r d lt lr ld) (h1 : lt.length = nt) (h2 : lr.length = nr) (h3 : ld.length = nd) (b1 : nt ≤ 1048576) (b2 : nr ≤ 1048576) (b3 : nd ≤ 1048576) :
    Calls Tryz.prog 48 #[mp W H t r d, .int .i64 1] w fun e w' => e = .returned (.int .i64 (1 + nt + nr + nd)) ∧ Marked w w' t r d ∧ Marks3 w' base t r d nt nr nd := by
  have o1 : w.ownsRow base 3 1 t nt (cellsI lt) := by rw [← h1]; exact ho.ot
  have o2 : w.ownsRow base 3 1 r nr (cellsI lr) := by rw [← h2]; exact ho.or
  have o3 : w.ownsRow base 3 1 d nd (cellsI ld) := by rw [← h3]; exact ho.od
  have n1 := Lib.hid (ho.ot.block' w.heap.size (Nat.le_refl _))
  have n2 := Lib.hid (ho.or.block' w.heap.size (Nat.le_refl _))
  have AP := Lib.hid (And.intro ho.tr (And.intro ho.td ho.rd))
  have s0 := new5 w (.int .i64 W) (.int .i64 H) t r d 39
  have k0 := s0.2.2.2.2.2
  have O1 := Lib.hid (ownsRow_keep o1 k0)
  have O2 := Lib.hid (ownsRow_keep o2 k0)
  have O3 := Lib.hid (ownsRow_keep o3 k0)
  clear ho h1 h2 h3 o1 o2 o3
  go_enter Tryz.func48, Tryz.ntmps48
  go_wp2_with fail
  refine (markIntS_own _ _ base _ _ _ (by omega) (by omega) b1 O1.out).mono ?_
  rintro e1 wa ⟨rfl, oa, ga⟩
  have c3 := ga.cell s0.2.2.2.1 (fun e => n1.out e.symm)
  have c4 := ga.cell s0.2.2.2.2.1 (fun e => n1.out e.symm)
  have P2 := Lib.hid (World.ownsRow.kept O2.out ga (apart_ne AP.out.1))
  have P3 := Lib.hid (World.ownsRow.kept O3.out ga (apart_ne AP.out.2.1))
  have P1 := Lib.hid oa
  have GA := Lib.hid ga
  clear oa ga s0 O1 O2 O3
  go_wp2_with fail
  refine (markIntS_own _ _ base _ _ _ (by omega) (by omega) b2 P2.out).mono ?_
  rintro e2 wb ⟨rfl, ob, gb⟩
  have d4 := gb.cell c4 (fun e => n2.out e.symm)
  have Q1 := Lib.hid (World.ownsRow.kept P1.out gb (apart_ne (apart_sym AP.out.1)))
  have Q3 := Lib.hid (World.ownsRow.kept P3.out gb (apart_ne AP.out.2.2))
  have Q2 := Lib.hid ob
  have GB := Lib.hid gb
  clear ob gb c3 c4 P1 P2 P3
  go_wp2_with fail
  refine (markIntS_own _ _ base _ _ _ (by omega) (by omega) b3 Q3.out).mono ?_
  rintro e3 wc ⟨rfl, oc, gc⟩
  have R1 := Lib.hid (World.ownsRow.kept Q1.out gc (apart_ne (apart_sym AP.out.2.1)))
  have R2 := Lib.hid (World.ownsRow.kept Q2.out gc (apart_ne (apart_sym AP.out.2.2)))
  have R3 := Lib.hid oc
  have GC := Lib.hid gc
  clear oc gc d4 Q1 Q2 Q3
  go_wp2_with fail
  go_ret
  exact ⟨rfl, ⟨_, _, _, k0, GA.out, GB.out, GC.out⟩, ⟨R1.out, R2.out, R3.out⟩⟩


end Go.Proofs.YtfohhofpfmbheaaGreatDoor

/-
  Worlds that differ in some blocks alone: below a number, and from another one on, all is as it was.
-/
namespace Go.Proofs.YtfohhofpfmbheaaGreatDoor
open Go.RowKit

/-- Below lo, and from hi on, all that lay there is as it was. -/
def Mk (lo hi : Nat) (w w' : World) : Prop := Below lo w w' ∧ ∀ b, hi ≤ b → b < w.heap.size → w'.heap[b]? = w.heap[b]?
theorem Mk.refl (lo hi : Nat) (w : World) : Mk lo hi w w := ⟨Below.refl _ _, fun _ _ _ => rfl⟩
theorem Mk.trans {lo hi : Nat} {a b c : World} (h : Mk lo hi a b) (k : Mk lo hi b c) : Mk lo hi a c :=
  ⟨Below.trans h.1 k.1, fun n hn hs => (k.2 n hn (Nat.lt_of_lt_of_le hs h.1.size)).trans (h.2 n hn hs)⟩
theorem Mk.of_kp {lo hi : Nat} {w w' : World} (k : Kp w w') (h : lo ≤ w.heap.size) : Mk lo hi w w' := ⟨Below.mono k h, fun b _ hb => k.block b hb⟩
theorem Mk.set {lo hi : Nat} {a w : World} (h : Mk lo hi a w) {b j : Nat} (h1 : lo ≤ b) (h2 : b < hi) (u : Value) : Mk lo hi a (w.setCell ⟨b, j, none⟩ u) :=
  ⟨Below.setCell h.1 h1 u, fun n hn hs => (Below.heap_setCell w ⟨b, j, none⟩ u n (by simp only; omega)).trans (h.2 n hn hs)⟩
theorem Mk.grown {lo hi : Nat} {a w w' : World} {row : Option Nat} (h : Mk lo hi a w) (g : w.grownBy w' row) (hs : lo ≤ w.heap.size) (hr : ∀ k, row = some k → lo ≤ k ∧ k < hi) : Mk lo hi a w' :=
  ⟨Below.grown h.1 g hs (fun k e => (hr k e).1), fun n hn hz => ((let ⟨_, _, _, _, gb⟩ := g; gb) n (Nat.lt_of_lt_of_le hz h.1.size) (fun e => by have := (hr n e.symm).2; omega)).trans (h.2 n hn hz)⟩
theorem Mk.kp {lo hi : Nat} {w w' W0 : World} (h : Mk lo hi w w') (k : Kp W0 w) (hb : W0.heap.size ≤ lo) : Kp W0 w' := Below.trans k (Below.mono h.1 hb)
theorem Mk.own {lo hi base sz n : Nat} {w w' : World} {e : TypeId} {v : Value} {xs : List Value} (h : Mk lo hi w w') (o : w.ownsRow base e sz v n xs) (hb : ∀ g, v.ownBlock = some g → hi ≤ g) : w'.ownsRow base e sz v n xs := by
  obtain ⟨hl, hv⟩ := o
  refine ⟨hl, ?_⟩
  rcases hv with h0 | ⟨g, cap, cur, rfl, h1, h2, h3⟩
  · exact .inl h0
  · have hg : g < w.heap.size := (Array.getElem?_eq_some_iff.1 h2).1
    exact .inr ⟨g, cap, cur, rfl, h1, by rw [h.2 g (hb g rfl) hg]; exact h2, h3⟩

end Go.Proofs.YtfohhofpfmbheaaGreatDoor

/-
  The laws' marking of copied boards: only the copy's own blocks are written, and the number handed back is not less. (What the marks are is not said here.)
-/
namespace Go.Proofs.YtfohhofpfmbheaaGreatDoor
open Go.RowKit

set_option maxRecDepth 100000 in
set_option maxHeartbeats 1000000 in
theorem markText_any (k : Nat) (w : World) (hk : k ≤ 1000000000000000) :
    Calls Tryz.prog 112 #[.int .i64 (k : Int)] w fun e w' => ∃ s, e = .returned (.string s) ∧ Kp w w' := by
  by_cases h0 : k = 0
  · subst h0
    go_enter Tryz.func112, Tryz.ntmps112
    go_wp2_with fail
    go_ret
    exact ⟨_, rfl, Kp.refl _⟩
  · have h1 : ¬ (k : Int) ≤ 0 := by omega
    go_enter Tryz.func112, Tryz.ntmps112
    go_wp2_with fail
    go_loopw [0, 3] (fun kk s wr => ∃ (q : Nat) (x : ByteArray), kk = .int .i64 q ∧ s = .string x ∧ q + x.size ≤ k ∧ Kp w wr) (fun kk _ _ => (intOf kk).toNat)
    case atStart => exact ⟨k, ByteArray.empty, rfl, rfl, by simp, Kp.refl _⟩
    case round =>
      obtain ⟨q, x, rfl, rfl, hq, kr⟩ := hrel
      by_cases hq0 : 0 < q
      · have hq1 : (0 : Int) < q := by omega
        have hd1 : 0 ≤ (q : Int) % 10 := by omega
        have hd2 : (q : Int) % 10 ≤ 9 := by omega
        have hconv := run_convert_bytes_arg (P := Tryz.prog) (wr.alloc (.cells #[.int .u8 (48 + (q : Int) % 10)] 5)) 142 5 Tryz.underlying142 Tryz.underlying5 wr.heap.size 0 1 1 [48 + (q : Int) % 10] rfl (fun i hi => by
          obtain rfl : i = 0 := by omega
          simp [go_sem]) 9 Tryz.underlying9
        have hsz := strOfNums_size [48 + (q : Int) % 10]
        generalize strOfNums [48 + (q : Int) % 10] = z at hconv hsz
        go_wp2_with fail
        go_roundw
        case rel => exact ⟨q / 10, _, by go_num, rfl, by simp at hsz ⊢; omega, kr.alloc _⟩
        case measure => simp [intOf]; omega
      · obtain rfl : q = 0 := by omega
        go_wp2_with fail
        go_ret
        exact ⟨_, rfl, kr⟩


theorem live_grown {w w' : World} {base g n sz : Nat} {e : TypeId} {ys : List Value} {cap : Nat} (h : w.ownsRow base e sz (.slice (some ⟨g, 0, none⟩) n cap) n ys) {row : Option Nat} (gr : w.grownBy w' row) (hne : some g ≠ row) : w'.ownsRow base e sz (.slice (some ⟨g, 0, none⟩) n cap) n ys :=
  World.ownsRow.kept h gr (.inr (fun e => hne (by rw [← e]; rfl)))
/-- What the marking of terrains needs of the terrains from the q-th on. -/
def Rest (w : World) (g q : Nat) (l : List Ter) (cs : List (Option Addr × Nat)) (ys : List Value) : Prop :=
  ∀ (j : Nat) (x : Ter) (c : Option Addr × Nat), q ≤ j → l[j]? = some x → cs[j]? = some c → ys[j * 5 + 1]? = some (.slice c.1 x.cost.length c.2) ∧ OwnI w (g + 1) (.slice c.1 x.cost.length c.2) x.cost
theorem OwnI.kp_set {w w1 : World} {base g j : Nat} {v : Value} {l : List Int} (h : OwnI w base v l) (k : Kp w w1) (hg : g < base) (u : Value) : OwnI (w1.setCell ⟨g, j, none⟩ u) base v l := by
  have h1 := h.keep k
  exact h1.far (h1.not hg) u

set_option maxRecDepth 100000 in
set_option maxHeartbeats 4000000 in
theorem markTerrainS_w (g n : Nat) (l : List Ter) (cs : List (Option Addr × Nat)) (ys : List Value) (k0 : Int) (lo hi : Nat) (w : World) (h : OwnT w g n l cs ys) (hl : l.length = n) (hc : cs.length = n) (hn : n ≤ 1048576) (hb : ∀ x ∈ l, x.cost.length ≤ 1048576) (hlo : lo ≤ g) (hg : g < hi)
    (hhi : ∀ (j : Nat) (c : Option Addr × Nat) (x b : Nat), cs[j]? = some c → (Value.slice c.1 x c.2).ownBlock = some b → b < hi) (p0 : 0 ≤ k0) (p1 : k0 ≤ 100000000000000) :
    Calls Tryz.prog 84 #[.slice (some ⟨g, 0, none⟩) n n, .int .i64 k0] w fun e w' => ∃ k', e = .returned (.int .i64 k') ∧ k0 ≤ k' ∧ k' ≤ k0 + 1048580 * (n : Int) ∧ Mk lo hi w w' := by
  have HN := Lib.hid hl
  have HC := Lib.hid hc
  have HB := Lib.hid hb
  have HHI := Lib.hid hhi
  have HAP := Lib.hid h.apart
  have R0 := Lib.hid h.row
  have S0 : Hid (Rest w g 0 l cs ys) := Lib.hid fun j x c _ hx hcj => ⟨(h.here j x c hx hcj).2.1, h.each j x c hx hcj⟩
  have hgw : g < w.heap.size := (World.ownsRow.lt h.row g rfl).2
  clear h hl hc hb hhi
  go_enter Tryz.func84, Tryz.ntmps84
  go_wp2_with fail
  go_loopw [1, 5] (fun kk i wr => ∃ (q : Nat) (k : Int) (ys : List Value), q ≤ n ∧ i = .int .i64 q ∧ kk = .int .i64 k ∧ k0 ≤ k ∧ k ≤ k0 + 1048580 * (q : Int) ∧ Hid (wr.ownsRow g 117 5 (.slice (some ⟨g, 0, none⟩) n n) n ys) ∧ Hid (Rest wr g q l cs ys) ∧ Mk lo hi w wr ∧ w.heap.size ≤ wr.heap.size) (fun _ i _ => n - (intOf i).toNat)
  case atStart => exact ⟨0, _, ys, by omega, rfl, rfl, by omega, by omega, R0, S0, Mk.refl _ _ _, Nat.le_refl _⟩
  case round =>
    clear R0 S0
    obtain ⟨q, k, zs, hq, rfl, rfl, hk0, hk1, HR, HS, mk, hz⟩ := hrel
    by_cases hlt : q < n
    · have hlt' : (q : Int) < n := by omega
      obtain ⟨x, hx⟩ : ∃ x, l[q]? = some x := ⟨l[q]'(by have := HN.out; omega), List.getElem?_eq_getElem _⟩
      obtain ⟨c, hc⟩ : ∃ c, cs[q]? = some c := ⟨cs[q]'(by have := HC.out; omega), List.getElem?_eq_getElem _⟩
      have hnc := HB.out x (List.mem_of_getElem? hx)
      have HX := Lib.hid hx
      have HCC := Lib.hid hc
      have hrq := HS.out q x c (Nat.le_refl _) hx hc
      obtain ⟨Ac, cc⟩ := c
      simp only at hrq
      have HO := Lib.hid hrq.2
      have HY := Lib.hid hrq.1
      have HZ : Hid (zs.length = n * 5) := Lib.hid HR.out.1
      have HBL : Hid (∀ b, (Value.slice Ac x.cost.length cc).ownBlock = some b → g + 1 ≤ b ∧ b < wr.heap.size ∧ b < hi) := Lib.hid fun b hb => ⟨(World.ownsRow.lt HO.out b hb).1, (World.ownsRow.lt HO.out b hb).2, HHI.out q _ _ b hc hb⟩
      obtain ⟨kn, rfl⟩ : ∃ kn : Nat, k = kn := ⟨k.toNat, by omega⟩
      generalize hcl : x.cost.length = nc at HO HY hnc HBL
      have HCL := Lib.hid hcl
      obtain ⟨⟨u0, b0⟩, f0⟩ := liveN HR.out (j := q * 5) (by omega)
      have hgr : g < wr.heap.size := by omega
      clear hx hc hrq hcl
      go_wp2_with fail
      refine (markText_any kn _ (by omega)).mono ?_
      rintro e1 w1 ⟨s, rfl, k1⟩
      have b0' := k1.cell b0
      have R1 := Lib.hid (ownsRow_keep HR.out k1)
      have f0' := (liveN R1.out (j := q * 5) (by omega)).2
      have R2 := Lib.hid (R1.out.stored (q * 5) (.string s)).1
      have O2 : Hid ((w1.setCell ⟨g, q * 5, none⟩ (.string s)).ownsRow (g + 1) 3 1 (.slice Ac nc cc) nc (cellsI x.cost)) := Lib.hid (by
        have := HO.out.kp_set k1 (g := g) (j := q * 5) (by omega) (.string s)
        unfold OwnI at this
        rw [HCL.out] at this
        exact this)
      have c1 : (w1.setCell ⟨g, q * 5, none⟩ (.string s)).cell? ⟨g, q * 5 + 1, none⟩ = some (.slice Ac nc cc) := by
        refine (R2.out.cellAt (q * 5 + 1) (by omega)).trans ?_
        rw [List.getElem?_set_ne (by omega)]
        exact HY.out
      have m1 : Mk lo hi w (w1.setCell ⟨g, q * 5, none⟩ (.string s)) := (mk.trans (Mk.of_kp k1 (by omega))).set hlo hg _
      have hz1 : wr.heap.size ≤ (w1.setCell ⟨g, q * 5, none⟩ (.string s)).heap.size := by have := k1.size; simpa using this
      clear b0 f0 R1
      go_wp2_with fail
      generalize hW : w1.setCell ⟨g, q * 5, none⟩ (.string s) = W1 at *
      refine (markIntS_own _ _ (g + 1) _ _ _ (by omega) (by omega) hnc O2.out).mono ?_
      rintro e2 w2 ⟨rfl, _, g2⟩
      have R3 := Lib.hid (live_grown R2.out g2 (fun e => by have := HBL.out g e.symm; omega))
      have m2 : Mk lo hi w w2 := m1.grown g2 (by omega) (fun b e => by have := HBL.out b e; omega)
      have hz2 : W1.heap.size ≤ w2.heap.size := g2.size
      have S2 : Hid (∀ (j : Nat) (y : Ter) (d : Option Addr × Nat), q + 1 ≤ j → l[j]? = some y → cs[j]? = some d → OwnI w2 (g + 1) (.slice d.1 y.cost.length d.2) y.cost) := Lib.hid fun j y d hj hy hd => by
        have h1 := (HS.out j y d (by omega) hy hd).2
        have h2 : OwnI W1 (g + 1) (.slice d.1 y.cost.length d.2) y.cost := by
          rw [← hW]
          exact h1.kp_set k1 (by omega) _
        refine World.ownsRow.kept h2 g2 ?_
        cases hb : (Value.slice d.1 y.cost.length d.2).ownBlock
        · exact .inl rfl
        · rename_i b
          refine .inr fun e => ?_
          exact HAP.out q j _ d (by omega) HCC.out hd nc y.cost.length b e.symm hb
      obtain ⟨⟨u2, b2⟩, f2⟩ := liveN R3.out (j := q * 5 + 2) (by omega)
      obtain ⟨⟨u3, b3⟩, f3⟩ := liveN R3.out (j := q * 5 + 3) (by omega)
      obtain ⟨⟨u4, b4⟩, f4⟩ := liveN R3.out (j := q * 5 + 4) (by omega)
      have g2s := g2
      clear g2 hW O2 R2 c1 m1 b0' f0' k1
      go_wp2_with fail
      go_roundw
      case rel =>
        refine ⟨q + 1, _, _, by omega, by go_num, rfl, by omega, by omega, Lib.hid (((R3.out.stored (q * 5 + 2) _).1.stored (q * 5 + 3) _).1.stored (q * 5 + 4) _).1, Lib.hid ?_, ((m2.set hlo hg _).set hlo hg _).set hlo hg _, by simp; omega⟩
        intro j y d hj hy hd
        have h1 := (HS.out j y d (by omega) hy hd).1
        refine ⟨?_, ?_⟩
        · rw [List.getElem?_set_ne (by omega), List.getElem?_set_ne (by omega), List.getElem?_set_ne (by omega), List.getElem?_set_ne (by omega)]
          exact h1
        · have h2 := S2.out j y d hj hy hd
          have n1 := h2.not (g := g) (by omega)
          exact ((h2.far n1 _).far n1 _).far n1 _
      case measure => simp [intOf]; omega
    · obtain rfl : q = n := by omega
      go_wp2_with fail
      go_ret
      exact ⟨_, rfl, hk0, hk1, mk⟩

end Go.Proofs.YtfohhofpfmbheaaGreatDoor

/-
  The laws' marking of copied kinds, rules, maps and boards: only the copy's own blocks are written, and the number handed back is not less.
-/
namespace Go.Proofs.YtfohhofpfmbheaaGreatDoor
open Go.RowKit

set_option maxRecDepth 100000 in
set_option maxHeartbeats 4000000 in
theorem markKindS_w (g n : Nat) (ys : List Value) (k0 : Int) (lo hi : Nat) (w : World) (h : w.ownsRow g 108 6 (.slice (some ⟨g, 0, none⟩) n n) n ys) (hn : n ≤ 1048576) (hlo : lo ≤ g) (hg : g < hi) (p0 : 0 ≤ k0) (p1 : k0 ≤ 200000000000000) :
    Calls Tryz.prog 85 #[.slice (some ⟨g, 0, none⟩) n n, .int .i64 k0] w fun e w' => ∃ k', e = .returned (.int .i64 k') ∧ k0 ≤ k' ∧ k' ≤ k0 + 6 * (n : Int) ∧ Mk lo hi w w' := by
  have R0 := Lib.hid h
  have hgw : g < w.heap.size := (World.ownsRow.lt h g rfl).2
  clear h
  go_enter Tryz.func85, Tryz.ntmps85
  go_wp2_with fail
  go_loopw [1, 5] (fun kk i wr => ∃ (q : Nat) (k : Int) (ys : List Value), q ≤ n ∧ i = .int .i64 q ∧ kk = .int .i64 k ∧ k0 ≤ k ∧ k ≤ k0 + 6 * (q : Int) ∧ Hid (wr.ownsRow g 108 6 (.slice (some ⟨g, 0, none⟩) n n) n ys) ∧ Mk lo hi w wr ∧ w.heap.size ≤ wr.heap.size) (fun _ i _ => n - (intOf i).toNat)
  case atStart => exact ⟨0, _, ys, by omega, rfl, rfl, by omega, by omega, R0, Mk.refl _ _ _, Nat.le_refl _⟩
  case round =>
    clear R0
    obtain ⟨q, k, zs, hq, rfl, rfl, hk0, hk1, HR, mk, hz⟩ := hrel
    by_cases hlt : q < n
    · have hlt' : (q : Int) < n := by omega
      obtain ⟨kn, rfl⟩ : ∃ kn : Nat, k = kn := ⟨k.toNat, by omega⟩
      obtain ⟨⟨u0, b0⟩, f0⟩ := liveN HR.out (j := q * 6) (by omega)
      have hgr : g < wr.heap.size := by omega
      go_wp2_with fail
      refine (markText_any kn _ (by omega)).mono ?_
      rintro e1 w1 ⟨s, rfl, k1⟩
      have R1 := Lib.hid (ownsRow_keep HR.out k1)
      obtain ⟨⟨t0, c0⟩, d0⟩ := liveN R1.out (j := q * 6) (by omega)
      obtain ⟨⟨t1, c1⟩, d1⟩ := liveN R1.out (j := q * 6 + 1) (by omega)
      obtain ⟨⟨t2, c2⟩, d2⟩ := liveN R1.out (j := q * 6 + 2) (by omega)
      obtain ⟨⟨t3, c3⟩, d3⟩ := liveN R1.out (j := q * 6 + 3) (by omega)
      obtain ⟨⟨t4, c4⟩, d4⟩ := liveN R1.out (j := q * 6 + 4) (by omega)
      obtain ⟨⟨t5, c5⟩, d5⟩ := liveN R1.out (j := q * 6 + 5) (by omega)
      have m1 : Mk lo hi w w1 := mk.trans (Mk.of_kp k1 (by omega))
      have hz1 : wr.heap.size ≤ w1.heap.size := k1.size
      clear b0 f0 k1
      go_wp2_with fail
      go_roundw
      case rel =>
        exact ⟨q + 1, _, _, by omega, by go_num, rfl, by omega, by omega, Lib.hid ((((((R1.out.stored (q * 6) _).1.stored (q * 6 + 1) _).1.stored (q * 6 + 2) _).1.stored (q * 6 + 3) _).1.stored (q * 6 + 4) _).1.stored (q * 6 + 5) _).1, (((((m1.set hlo hg _).set hlo hg _).set hlo hg _).set hlo hg _).set hlo hg _).set hlo hg _, by simp; omega⟩
      case measure => simp [intOf]; omega
    · obtain rfl : q = n := by omega
      go_wp2_with fail
      go_ret
      exact ⟨_, rfl, hk0, hk1, mk⟩

theorem Mk.row {lo hi base g n sz : Nat} {w w' : World} {e : TypeId} {cap : Nat} {xs : List Value} (h : Mk lo hi w w') (o : w.ownsRow base e sz (.slice (some ⟨g, 0, none⟩) n cap) n xs) (hb : hi ≤ g) : w'.ownsRow base e sz (.slice (some ⟨g, 0, none⟩) n cap) n xs :=
  h.own o (fun b e => by
    have : g = b := by simpa [Value.ownBlock] using e
    omega)
theorem Mk.cell_hi {lo hi : Nat} {w w' : World} (h : Mk lo hi w w') {b o : Nat} {v : Value} (hb : hi ≤ b) (hc : w.cell? ⟨b, o, none⟩ = some v) : w'.cell? ⟨b, o, none⟩ = some v :=
  (World.cell?_of_block (w := w) (h.2 b hb (cell_lt hc))).trans hc
theorem Mk.wide {lo hi hi' : Nat} {w w' : World} (h : Mk lo hi w w') (hh : hi ≤ hi') : Mk lo hi' w w' := ⟨h.1, fun b hb hs => h.2 b (by omega) hs⟩
theorem OwnR.hi {w : World} {base g1 g2 nt nk : Nat} {l : List Ter} {m : List Knd} {cs : List (Option Addr × Nat)} {ys zs : List Value} (h : OwnR w base g1 g2 nt nk l m cs ys zs) : ∀ (j : Nat) (c : Option Addr × Nat) (x b : Nat), cs[j]? = some c → (Value.slice c.1 x c.2).ownBlock = some b → b < g2 :=
  fun j c x b hc hb => (h.mid j c x b hc hb).2

set_option maxRecDepth 100000 in
set_option maxHeartbeats 4000000 in
theorem markRules_w (base g1 g2 nt nk : Nat) (l : List Ter) (m : List Knd) (cs : List (Option Addr × Nat)) (ys zs : List Value) (a b c d e k0 : Int) (w : World) (h : OwnR w base g1 g2 nt nk l m cs ys zs) (hb1 : nt ≤ 1048576) (hb2 : nk ≤ 1048576) (hb : ∀ x ∈ l, x.cost.length ≤ 1048576) (p0 : 0 ≤ k0) (p1 : k0 ≤ 100000000000000) :
    Calls Tryz.prog 47 #[rv (.slice (some ⟨g1, 0, none⟩) nt nt) (.slice (some ⟨g2, 0, none⟩) nk nk) a b c d e, .int .i64 k0] w fun e' w' => ∃ k', e' = .returned (.int .i64 k') ∧ k0 ≤ k' ∧ k' ≤ k0 + 2000000000000 ∧ Mk base (g2 + 1) w w' := by
  have KA : Kp w (w.alloc (.cells #[.slice (some ⟨g1, 0, none⟩) nt nt, .slice (some ⟨g2, 0, none⟩) nk nk, .int .i64 a, .int .i64 b, .int .i64 c, .int .i64 d, .int .i64 e] 38)) := (Kp.refl w).alloc _
  have q1 : (w.alloc (.cells #[.slice (some ⟨g1, 0, none⟩) nt nt, .slice (some ⟨g2, 0, none⟩) nk nk, .int .i64 a, .int .i64 b, .int .i64 c, .int .i64 d, .int .i64 e] 38)).cell? ⟨w.heap.size, 1, none⟩ = some (.slice (some ⟨g2, 0, none⟩) nk nk) := by simp [go_sem]
  have HO := Lib.hid (h.keep KA)
  have HB := Lib.hid hb
  have x1 := h.b
  have x2 := h.g
  have x3 := h.z
  clear h hb
  go_enter Tryz.func47, Tryz.ntmps47
  go_wp2_with fail
  refine (markTerrainS_w g1 nt l cs ys k0 base g2 _ HO.out.t HO.out.lt HO.out.lc hb1 HB.out x1 x2 HO.out.hi p0 p1).mono ?_
  rintro e1 w1 ⟨k1, rfl, y1, y2, m1⟩
  have q2 := m1.cell_hi (by omega) q1
  have O1 := Lib.hid (m1.row HO.out.k.row (Nat.le_refl _))
  have M1 : Mk base (g2 + 1) w w1 := (Mk.of_kp KA (by omega)).trans (m1.wide (by omega))
  clear q1 m1
  go_wp2_with fail
  refine (markKindS_w g2 nk zs _ base (g2 + 1) _ O1.out hb2 (by omega) (by omega) (by omega) (by omega)).mono ?_
  rintro e2 w2 ⟨k2, rfl, z1, z2, m2⟩
  go_wp2_with fail
  go_ret
  exact ⟨_, rfl, by omega, by omega, M1.trans m2⟩

set_option maxRecDepth 100000 in
set_option maxHeartbeats 4000000 in
theorem markMap_w (W H : Int) (t r d : Value) (lt lr ld : List Int) (nt nr nd base hi : Nat) (k0 : Int) (w : World) (ho : Own3 w base t r d lt lr ld) (h1 : lt.length = nt) (h2 : lr.length = nr) (h3 : ld.length = nd) (b1 : nt ≤ 1048576) (b2 : nr ≤ 1048576) (b3 : nd ≤ 1048576) (hs : base ≤ w.heap.size)
    (hi1 : ∀ g, t.ownBlock = some g → g < hi) (hi2 : ∀ g, r.ownBlock = some g → g < hi) (hi3 : ∀ g, d.ownBlock = some g → g < hi) (p0 : 0 ≤ k0) (p1 : k0 ≤ 500000000000000) :
    Calls Tryz.prog 48 #[mp W H t r d, .int .i64 k0] w fun e w' => e = .returned (.int .i64 (k0 + nt + nr + nd)) ∧ Mk base hi w w' := by
  have o1 : w.ownsRow base 3 1 t nt (cellsI lt) := by rw [← h1]; exact ho.ot
  have o2 : w.ownsRow base 3 1 r nr (cellsI lr) := by rw [← h2]; exact ho.or
  have o3 : w.ownsRow base 3 1 d nd (cellsI ld) := by rw [← h3]; exact ho.od
  have n1 := Lib.hid (ho.ot.block' w.heap.size (Nat.le_refl _))
  have n2 := Lib.hid (ho.or.block' w.heap.size (Nat.le_refl _))
  have AP := Lib.hid (And.intro ho.tr (And.intro ho.td ho.rd))
  have s0 := new5 w (.int .i64 W) (.int .i64 H) t r d 39
  have k0' := s0.2.2.2.2.2
  have O1 := Lib.hid (ownsRow_keep o1 k0')
  have O2 := Lib.hid (ownsRow_keep o2 k0')
  have O3 := Lib.hid (ownsRow_keep o3 k0')
  have I1 : Hid (∀ g, t.ownBlock = some g → base ≤ g ∧ g < hi) := Lib.hid fun g e => ⟨(World.ownsRow.lt o1 g e).1, hi1 g e⟩
  have I2 : Hid (∀ g, r.ownBlock = some g → base ≤ g ∧ g < hi) := Lib.hid fun g e => ⟨(World.ownsRow.lt o2 g e).1, hi2 g e⟩
  have I3 : Hid (∀ g, d.ownBlock = some g → base ≤ g ∧ g < hi) := Lib.hid fun g e => ⟨(World.ownsRow.lt o3 g e).1, hi3 g e⟩
  have m0 : Mk base hi w _ := Mk.of_kp k0' hs
  have hz0 : w.heap.size ≤ _ := k0'.size
  clear ho h1 h2 h3 o1 o2 o3 k0' hi1 hi2 hi3
  go_enter Tryz.func48, Tryz.ntmps48
  go_wp2_with fail
  refine (markIntS_own _ _ base _ _ _ (by omega) (by omega) b1 O1.out).mono ?_
  rintro e1 wa ⟨rfl, oa, ga⟩
  have c3 := ga.cell s0.2.2.2.1 (fun e => n1.out e.symm)
  have c4 := ga.cell s0.2.2.2.2.1 (fun e => n1.out e.symm)
  have P2 := Lib.hid (World.ownsRow.kept O2.out ga (apart_ne AP.out.1))
  have P3 := Lib.hid (World.ownsRow.kept O3.out ga (apart_ne AP.out.2.1))
  have ma := m0.grown ga (by omega) I1.out
  have za := ga.size
  clear oa ga s0 O1 O2 O3 m0
  go_wp2_with fail
  refine (markIntS_own _ _ base _ _ _ (by omega) (by omega) b2 P2.out).mono ?_
  rintro e2 wb ⟨rfl, ob, gb⟩
  have d4 := gb.cell c4 (fun e => n2.out e.symm)
  have Q3 := Lib.hid (World.ownsRow.kept P3.out gb (apart_ne AP.out.2.2))
  have mb := ma.grown gb (by omega) I2.out
  have zb := gb.size
  clear ob gb c3 c4 P2 P3 ma
  go_wp2_with fail
  refine (markIntS_own _ _ base _ _ _ (by omega) (by omega) b3 Q3.out).mono ?_
  rintro e3 wc ⟨rfl, oc, gc⟩
  have mc := mb.grown gc (by omega) I3.out
  clear oc gc d4 Q3 mb
  go_wp2_with fail
  go_ret
  exact ⟨rfl, mc⟩

theorem Own3.marked {w w' : World} {lo hi base : Nat} {t r d : Value} {lt lr ld : List Int} (h : Own3 w base t r d lt lr ld) (m : Mk lo hi w w') (hb : hi ≤ base) : Own3 w' base t r d lt lr ld :=
  ⟨m.own h.ot (fun g e => Nat.le_trans hb (World.ownsRow.lt h.ot g e).1), m.own h.or (fun g e => Nat.le_trans hb (World.ownsRow.lt h.or g e).1), m.own h.od (fun g e => Nat.le_trans hb (World.ownsRow.lt h.od g e).1), h.tr, h.td, h.rd⟩

set_option maxRecDepth 100000 in
set_option maxHeartbeats 4000000 in
theorem markBoard_u (base g1 g2 nt nk : Nat) (l : List Ter) (m : List Knd) (cs : List (Option Addr × Nat)) (ys zs : List Value) (a b c d e W H k0 : Int) (x r y : Value) (lt lr ld : List Int) (w : World) (h : OwnBrd w base g1 g2 nt nk l m cs ys zs x r y lt lr ld) (hb1 : nt ≤ 1048576) (hb2 : nk ≤ 1048576) (hb : ∀ x ∈ l, x.cost.length ≤ 1048576) (hm : mapSm lt lr ld) (hbs : base ≤ w.heap.size) (hi : Nat) (_hh : hi ≤ w.heap.size) (hg : g2 < hi) (i1 : ∀ g, x.ownBlock = some g → g < hi) (i2 : ∀ g, r.ownBlock = some g → g < hi) (i3 : ∀ g, y.ownBlock = some g → g < hi) (p0 : 0 ≤ k0) (p1 : k0 ≤ 100000000000000) :
    Calls Tryz.prog 17 #[bv (.slice (some ⟨g1, 0, none⟩) nt nt) (.slice (some ⟨g2, 0, none⟩) nk nk) a b c d e W H x r y, .int .i64 k0] w fun e' w' => ∃ k', e' = .returned (.int .i64 k') ∧ k0 ≤ k' ∧ k' ≤ k0 + 3000000000000 ∧ Mk base hi w w' := by
  have KA : Kp w (w.alloc (.cells #[.slice (some ⟨g1, 0, none⟩) nt nt, .slice (some ⟨g2, 0, none⟩) nk nk, .int .i64 a, .int .i64 b, .int .i64 c, .int .i64 d, .int .i64 e, .int .i64 W, .int .i64 H, x, r, y] 41)) := (Kp.refl w).alloc _
  have s0 : (w.alloc (.cells #[.slice (some ⟨g1, 0, none⟩) nt nt, .slice (some ⟨g2, 0, none⟩) nk nk, .int .i64 a, .int .i64 b, .int .i64 c, .int .i64 d, .int .i64 e, .int .i64 W, .int .i64 H, x, r, y] 41)).cell? ⟨w.heap.size, 0, none⟩ = some (.slice (some ⟨g1, 0, none⟩) nt nt) ∧ (w.alloc (.cells #[.slice (some ⟨g1, 0, none⟩) nt nt, .slice (some ⟨g2, 0, none⟩) nk nk, .int .i64 a, .int .i64 b, .int .i64 c, .int .i64 d, .int .i64 e, .int .i64 W, .int .i64 H, x, r, y] 41)).cell? ⟨w.heap.size, 1, none⟩ = some (.slice (some ⟨g2, 0, none⟩) nk nk) ∧ (w.alloc (.cells #[.slice (some ⟨g1, 0, none⟩) nt nt, .slice (some ⟨g2, 0, none⟩) nk nk, .int .i64 a, .int .i64 b, .int .i64 c, .int .i64 d, .int .i64 e, .int .i64 W, .int .i64 H, x, r, y] 41)).cell? ⟨w.heap.size, 2, none⟩ = some (.int .i64 a) ∧ (w.alloc (.cells #[.slice (some ⟨g1, 0, none⟩) nt nt, .slice (some ⟨g2, 0, none⟩) nk nk, .int .i64 a, .int .i64 b, .int .i64 c, .int .i64 d, .int .i64 e, .int .i64 W, .int .i64 H, x, r, y] 41)).cell? ⟨w.heap.size, 3, none⟩ = some (.int .i64 b) ∧ (w.alloc (.cells #[.slice (some ⟨g1, 0, none⟩) nt nt, .slice (some ⟨g2, 0, none⟩) nk nk, .int .i64 a, .int .i64 b, .int .i64 c, .int .i64 d, .int .i64 e, .int .i64 W, .int .i64 H, x, r, y] 41)).cell? ⟨w.heap.size, 4, none⟩ = some (.int .i64 c) ∧ (w.alloc (.cells #[.slice (some ⟨g1, 0, none⟩) nt nt, .slice (some ⟨g2, 0, none⟩) nk nk, .int .i64 a, .int .i64 b, .int .i64 c, .int .i64 d, .int .i64 e, .int .i64 W, .int .i64 H, x, r, y] 41)).cell? ⟨w.heap.size, 5, none⟩ = some (.int .i64 d) ∧ (w.alloc (.cells #[.slice (some ⟨g1, 0, none⟩) nt nt, .slice (some ⟨g2, 0, none⟩) nk nk, .int .i64 a, .int .i64 b, .int .i64 c, .int .i64 d, .int .i64 e, .int .i64 W, .int .i64 H, x, r, y] 41)).cell? ⟨w.heap.size, 6, none⟩ = some (.int .i64 e) ∧ (w.alloc (.cells #[.slice (some ⟨g1, 0, none⟩) nt nt, .slice (some ⟨g2, 0, none⟩) nk nk, .int .i64 a, .int .i64 b, .int .i64 c, .int .i64 d, .int .i64 e, .int .i64 W, .int .i64 H, x, r, y] 41)).cell? ⟨w.heap.size, 7, none⟩ = some (.int .i64 W) ∧ (w.alloc (.cells #[.slice (some ⟨g1, 0, none⟩) nt nt, .slice (some ⟨g2, 0, none⟩) nk nk, .int .i64 a, .int .i64 b, .int .i64 c, .int .i64 d, .int .i64 e, .int .i64 W, .int .i64 H, x, r, y] 41)).cell? ⟨w.heap.size, 8, none⟩ = some (.int .i64 H) ∧ (w.alloc (.cells #[.slice (some ⟨g1, 0, none⟩) nt nt, .slice (some ⟨g2, 0, none⟩) nk nk, .int .i64 a, .int .i64 b, .int .i64 c, .int .i64 d, .int .i64 e, .int .i64 W, .int .i64 H, x, r, y] 41)).cell? ⟨w.heap.size, 9, none⟩ = some (x) ∧ (w.alloc (.cells #[.slice (some ⟨g1, 0, none⟩) nt nt, .slice (some ⟨g2, 0, none⟩) nk nk, .int .i64 a, .int .i64 b, .int .i64 c, .int .i64 d, .int .i64 e, .int .i64 W, .int .i64 H, x, r, y] 41)).cell? ⟨w.heap.size, 10, none⟩ = some (r) ∧ (w.alloc (.cells #[.slice (some ⟨g1, 0, none⟩) nt nt, .slice (some ⟨g2, 0, none⟩) nk nk, .int .i64 a, .int .i64 b, .int .i64 c, .int .i64 d, .int .i64 e, .int .i64 W, .int .i64 H, x, r, y] 41)).cell? ⟨w.heap.size, 11, none⟩ = some (y) := ⟨by simp [go_sem], by simp [go_sem], by simp [go_sem], by simp [go_sem], by simp [go_sem], by simp [go_sem], by simp [go_sem], by simp [go_sem], by simp [go_sem], by simp [go_sem], by simp [go_sem], by simp [go_sem]⟩
  have HO := Lib.hid (h.keep KA)
  have HB := Lib.hid hb
  have HM := Lib.hid hm
  have x1 := h.R.b
  have x2 := h.R.g
  have x3 := h.R.z
  have I1 := Lib.hid i1
  have I2 := Lib.hid i2
  have I3 := Lib.hid i3
  have hzA : w.heap.size ≤ _ := KA.size
  clear h hb hm i1 i2 i3
  go_enter Tryz.func17, Tryz.ntmps17
  go_wp2_with fail
  refine (markRules_w base g1 g2 nt nk l m cs ys zs a b c d e k0 _ HO.out.R hb1 hb2 HB.out p0 p1).mono ?_
  rintro e1 w1 ⟨k1, rfl, y1, y2, m1⟩
  have s1 : w1.cell? ⟨w.heap.size, 0, none⟩ = some (.slice (some ⟨g1, 0, none⟩) nt nt) ∧ w1.cell? ⟨w.heap.size, 1, none⟩ = some (.slice (some ⟨g2, 0, none⟩) nk nk) ∧ w1.cell? ⟨w.heap.size, 2, none⟩ = some (.int .i64 a) ∧ w1.cell? ⟨w.heap.size, 3, none⟩ = some (.int .i64 b) ∧ w1.cell? ⟨w.heap.size, 4, none⟩ = some (.int .i64 c) ∧ w1.cell? ⟨w.heap.size, 5, none⟩ = some (.int .i64 d) ∧ w1.cell? ⟨w.heap.size, 6, none⟩ = some (.int .i64 e) ∧ w1.cell? ⟨w.heap.size, 7, none⟩ = some (.int .i64 W) ∧ w1.cell? ⟨w.heap.size, 8, none⟩ = some (.int .i64 H) ∧ w1.cell? ⟨w.heap.size, 9, none⟩ = some (x) ∧ w1.cell? ⟨w.heap.size, 10, none⟩ = some (r) ∧ w1.cell? ⟨w.heap.size, 11, none⟩ = some (y) := ⟨m1.cell_hi (by omega) s0.1, m1.cell_hi (by omega) s0.2.1, m1.cell_hi (by omega) s0.2.2.1, m1.cell_hi (by omega) s0.2.2.2.1, m1.cell_hi (by omega) s0.2.2.2.2.1, m1.cell_hi (by omega) s0.2.2.2.2.2.1, m1.cell_hi (by omega) s0.2.2.2.2.2.2.1, m1.cell_hi (by omega) s0.2.2.2.2.2.2.2.1, m1.cell_hi (by omega) s0.2.2.2.2.2.2.2.2.1, m1.cell_hi (by omega) s0.2.2.2.2.2.2.2.2.2.1, m1.cell_hi (by omega) s0.2.2.2.2.2.2.2.2.2.2.1, m1.cell_hi (by omega) s0.2.2.2.2.2.2.2.2.2.2.2⟩
  have O1 := Lib.hid (HO.out.M.marked m1 (Nat.le_refl _))
  have M1 : Mk base hi w w1 := (Mk.of_kp KA hbs).trans (m1.wide (by omega))
  have hz1 := m1.1.size
  clear s0 m1
  go_wp2_with fail
  refine (markMap_w W H x r y lt lr ld _ _ _ (g2 + 1) hi k1 _ O1.out rfl rfl rfl HM.out.1 HM.out.2.1 HM.out.2.2 (by omega) I1.out I2.out I3.out (by omega) (by omega)).mono ?_
  rintro e2 w2 ⟨rfl, m2⟩
  go_wp2_with fail
  go_ret
  exact ⟨_, rfl, by omega, by have h1 := HM.out.1; have h2 := HM.out.2.1; have h3 := HM.out.2.2; omega, M1.trans ⟨Below.mono m2.1 (by omega), m2.2⟩⟩
theorem markBoard_w (base g1 g2 nt nk : Nat) (l : List Ter) (m : List Knd) (cs : List (Option Addr × Nat)) (ys zs : List Value) (a b c d e W H k0 : Int) (x r y : Value) (lt lr ld : List Int) (w : World) (h : OwnBrd w base g1 g2 nt nk l m cs ys zs x r y lt lr ld) (hb1 : nt ≤ 1048576) (hb2 : nk ≤ 1048576) (hb : ∀ x ∈ l, x.cost.length ≤ 1048576) (hm : mapSm lt lr ld) (hbs : base ≤ w.heap.size) (hi : Nat) (_hh : hi ≤ w.heap.size) (hg : g2 < hi) (i1 : ∀ g, x.ownBlock = some g → g < hi) (i2 : ∀ g, r.ownBlock = some g → g < hi) (i3 : ∀ g, y.ownBlock = some g → g < hi) (p0 : 0 ≤ k0) (p1 : k0 ≤ 100000000000000) :
    Calls Tryz.prog 17 #[bv (.slice (some ⟨g1, 0, none⟩) nt nt) (.slice (some ⟨g2, 0, none⟩) nk nk) a b c d e W H x r y, .int .i64 k0] w fun e' w' => ∃ k', e' = .returned (.int .i64 k') ∧ k0 ≤ k' ∧ Mk base hi w w' :=
  (markBoard_u base g1 g2 nt nk l m cs ys zs a b c d e W H k0 x r y lt lr ld w h hb1 hb2 hb hm hbs hi _hh hg i1 i2 i3 p0 p1).mono fun _ _ ⟨k', h1, h2, _, h4⟩ => ⟨k', h1, h2, h4⟩

end Go.Proofs.YtfohhofpfmbheaaGreatDoor

/-
  What the rows' lists say of the ranges and of the table of directions, cell by cell; a world for the witness in which they lie.
-/
namespace Go.Proofs.YtfohhofpfmbheaaGreatDoor
open Go.ChangeShapes Go.WideShapes Go.ChangeAt Go.RowKit Go.Joins

theorem terrainsG : Tryz.prog.globalNamed "loop.example/g00886/impl.terrainsSpan" = some 1 := by kernel_rfl
theorem terrainsTy : (Tryz.prog.globals[1]?).map (·.type) = some 74 := by kernel_rfl
theorem costG : Tryz.prog.globalNamed "loop.example/g00886/impl.costSpan" = some 8 := by kernel_rfl
theorem costTy : (Tryz.prog.globals[8]?).map (·.type) = some 74 := by kernel_rfl
theorem shiftG : Tryz.prog.globalNamed "loop.example/g00886/impl.shiftSpan" = some 9 := by kernel_rfl
theorem shiftTy : (Tryz.prog.globals[9]?).map (·.type) = some 74 := by kernel_rfl
theorem heightG : Tryz.prog.globalNamed "loop.example/g00886/impl.heightSpan" = some 10 := by kernel_rfl
theorem heightTy : (Tryz.prog.globals[10]?).map (·.type) = some 74 := by kernel_rfl
theorem kindsG : Tryz.prog.globalNamed "loop.example/g00886/impl.kindsSpan" = some 2 := by kernel_rfl
theorem kindsTy : (Tryz.prog.globals[2]?).map (·.type) = some 74 := by kernel_rfl
theorem strengthG : Tryz.prog.globalNamed "loop.example/g00886/impl.strengthSpan" = some 11 := by kernel_rfl
theorem strengthTy : (Tryz.prog.globals[11]?).map (·.type) = some 74 := by kernel_rfl
theorem movesG : Tryz.prog.globalNamed "loop.example/g00886/impl.movesSpan" = some 12 := by kernel_rfl
theorem movesTy : (Tryz.prog.globals[12]?).map (·.type) = some 74 := by kernel_rfl
theorem stepsG : Tryz.prog.globalNamed "loop.example/g00886/impl.stepsSpan" = some 13 := by kernel_rfl
theorem stepsTy : (Tryz.prog.globals[13]?).map (·.type) = some 74 := by kernel_rfl
theorem viewG : Tryz.prog.globalNamed "loop.example/g00886/impl.viewSpan" = some 14 := by kernel_rfl
theorem viewTy : (Tryz.prog.globals[14]?).map (·.type) = some 74 := by kernel_rfl
theorem stackG : Tryz.prog.globalNamed "loop.example/g00886/impl.stackSpan" = some 3 := by kernel_rfl
theorem stackTy : (Tryz.prog.globals[3]?).map (·.type) = some 74 := by kernel_rfl
theorem riverG : Tryz.prog.globalNamed "loop.example/g00886/impl.riverSpan" = some 4 := by kernel_rfl
theorem riverTy : (Tryz.prog.globals[4]?).map (·.type) = some 74 := by kernel_rfl
theorem roadG : Tryz.prog.globalNamed "loop.example/g00886/impl.roadSpan" = some 5 := by kernel_rfl
theorem roadTy : (Tryz.prog.globals[5]?).map (·.type) = some 74 := by kernel_rfl
theorem supplyG : Tryz.prog.globalNamed "loop.example/g00886/impl.supplySpan" = some 6 := by kernel_rfl
theorem supplyTy : (Tryz.prog.globals[6]?).map (·.type) = some 74 := by kernel_rfl
theorem turnsG : Tryz.prog.globalNamed "loop.example/g00886/impl.turnsSpan" = some 7 := by kernel_rfl
theorem turnsTy : (Tryz.prog.globals[7]?).map (·.type) = some 74 := by kernel_rfl

theorem spans14 {W : World} (h : laidMetH Tryz.prog [("loop.example/g00886/impl.terrainsSpan", Rows.laid_loop_example_g00886_impl_terrainsSpan), ("loop.example/g00886/impl.costSpan", Rows.laid_loop_example_g00886_impl_costSpan), ("loop.example/g00886/impl.shiftSpan", Rows.laid_loop_example_g00886_impl_shiftSpan), ("loop.example/g00886/impl.heightSpan", Rows.laid_loop_example_g00886_impl_heightSpan), ("loop.example/g00886/impl.kindsSpan", Rows.laid_loop_example_g00886_impl_kindsSpan), ("loop.example/g00886/impl.strengthSpan", Rows.laid_loop_example_g00886_impl_strengthSpan), ("loop.example/g00886/impl.movesSpan", Rows.laid_loop_example_g00886_impl_movesSpan), ("loop.example/g00886/impl.stepsSpan", Rows.laid_loop_example_g00886_impl_stepsSpan), ("loop.example/g00886/impl.viewSpan", Rows.laid_loop_example_g00886_impl_viewSpan), ("loop.example/g00886/impl.stackSpan", Rows.laid_loop_example_g00886_impl_stackSpan), ("loop.example/g00886/impl.riverSpan", Rows.laid_loop_example_g00886_impl_riverSpan), ("loop.example/g00886/impl.roadSpan", Rows.laid_loop_example_g00886_impl_roadSpan), ("loop.example/g00886/impl.supplySpan", Rows.laid_loop_example_g00886_impl_supplySpan), ("loop.example/g00886/impl.turnsSpan", Rows.laid_loop_example_g00886_impl_turnsSpan)] W) : Spans W := by
  have h' : laidMet Tryz.prog [("loop.example/g00886/impl.terrainsSpan", Rows.laid_loop_example_g00886_impl_terrainsSpan), ("loop.example/g00886/impl.costSpan", Rows.laid_loop_example_g00886_impl_costSpan), ("loop.example/g00886/impl.shiftSpan", Rows.laid_loop_example_g00886_impl_shiftSpan), ("loop.example/g00886/impl.heightSpan", Rows.laid_loop_example_g00886_impl_heightSpan), ("loop.example/g00886/impl.kindsSpan", Rows.laid_loop_example_g00886_impl_kindsSpan), ("loop.example/g00886/impl.strengthSpan", Rows.laid_loop_example_g00886_impl_strengthSpan), ("loop.example/g00886/impl.movesSpan", Rows.laid_loop_example_g00886_impl_movesSpan), ("loop.example/g00886/impl.stepsSpan", Rows.laid_loop_example_g00886_impl_stepsSpan), ("loop.example/g00886/impl.viewSpan", Rows.laid_loop_example_g00886_impl_viewSpan), ("loop.example/g00886/impl.stackSpan", Rows.laid_loop_example_g00886_impl_stackSpan), ("loop.example/g00886/impl.riverSpan", Rows.laid_loop_example_g00886_impl_riverSpan), ("loop.example/g00886/impl.roadSpan", Rows.laid_loop_example_g00886_impl_roadSpan), ("loop.example/g00886/impl.supplySpan", Rows.laid_loop_example_g00886_impl_supplySpan), ("loop.example/g00886/impl.turnsSpan", Rows.laid_loop_example_g00886_impl_turnsSpan)] W := h
  obtain ⟨ps, hl, _⟩ := h'
  exact ⟨span_of terrainsG terrainsTy (laid_one hl (.head _)), span_of costG costTy (laid_one hl (.tail _ (.head _))), span_of shiftG shiftTy (laid_one hl (.tail _ (.tail _ (.head _)))), span_of heightG heightTy (laid_one hl (.tail _ (.tail _ (.tail _ (.head _))))), span_of kindsG kindsTy (laid_one hl (.tail _ (.tail _ (.tail _ (.tail _ (.head _)))))), span_of strengthG strengthTy (laid_one hl (.tail _ (.tail _ (.tail _ (.tail _ (.tail _ (.head _))))))), span_of movesG movesTy (laid_one hl (.tail _ (.tail _ (.tail _ (.tail _ (.tail _ (.tail _ (.head _)))))))), span_of stepsG stepsTy (laid_one hl (.tail _ (.tail _ (.tail _ (.tail _ (.tail _ (.tail _ (.tail _ (.head _))))))))), span_of viewG viewTy (laid_one hl (.tail _ (.tail _ (.tail _ (.tail _ (.tail _ (.tail _ (.tail _ (.tail _ (.head _)))))))))), span_of stackG stackTy (laid_one hl (.tail _ (.tail _ (.tail _ (.tail _ (.tail _ (.tail _ (.tail _ (.tail _ (.tail _ (.head _))))))))))), span_of riverG riverTy (laid_one hl (.tail _ (.tail _ (.tail _ (.tail _ (.tail _ (.tail _ (.tail _ (.tail _ (.tail _ (.tail _ (.head _)))))))))))), span_of roadG roadTy (laid_one hl (.tail _ (.tail _ (.tail _ (.tail _ (.tail _ (.tail _ (.tail _ (.tail _ (.tail _ (.tail _ (.tail _ (.head _))))))))))))), span_of supplyG supplyTy (laid_one hl (.tail _ (.tail _ (.tail _ (.tail _ (.tail _ (.tail _ (.tail _ (.tail _ (.tail _ (.tail _ (.tail _ (.tail _ (.head _)))))))))))))), span_of turnsG turnsTy (laid_one hl (.tail _ (.tail _ (.tail _ (.tail _ (.tail _ (.tail _ (.tail _ (.tail _ (.tail _ (.tail _ (.tail _ (.tail _ (.tail _ (.head _)))))))))))))))⟩

theorem spans15 {W : World} (h : laidMetH Tryz.prog [("loop.example/g00886/impl.directionSteps", Rows.laid_loop_example_g00886_impl_directionSteps), ("loop.example/g00886/impl.terrainsSpan", Rows.laid_loop_example_g00886_impl_terrainsSpan), ("loop.example/g00886/impl.costSpan", Rows.laid_loop_example_g00886_impl_costSpan), ("loop.example/g00886/impl.shiftSpan", Rows.laid_loop_example_g00886_impl_shiftSpan), ("loop.example/g00886/impl.heightSpan", Rows.laid_loop_example_g00886_impl_heightSpan), ("loop.example/g00886/impl.kindsSpan", Rows.laid_loop_example_g00886_impl_kindsSpan), ("loop.example/g00886/impl.strengthSpan", Rows.laid_loop_example_g00886_impl_strengthSpan), ("loop.example/g00886/impl.movesSpan", Rows.laid_loop_example_g00886_impl_movesSpan), ("loop.example/g00886/impl.stepsSpan", Rows.laid_loop_example_g00886_impl_stepsSpan), ("loop.example/g00886/impl.viewSpan", Rows.laid_loop_example_g00886_impl_viewSpan), ("loop.example/g00886/impl.stackSpan", Rows.laid_loop_example_g00886_impl_stackSpan), ("loop.example/g00886/impl.riverSpan", Rows.laid_loop_example_g00886_impl_riverSpan), ("loop.example/g00886/impl.roadSpan", Rows.laid_loop_example_g00886_impl_roadSpan), ("loop.example/g00886/impl.supplySpan", Rows.laid_loop_example_g00886_impl_supplySpan), ("loop.example/g00886/impl.turnsSpan", Rows.laid_loop_example_g00886_impl_turnsSpan)] W) : Spans W := by
  have h' : laidMet Tryz.prog [("loop.example/g00886/impl.directionSteps", Rows.laid_loop_example_g00886_impl_directionSteps), ("loop.example/g00886/impl.terrainsSpan", Rows.laid_loop_example_g00886_impl_terrainsSpan), ("loop.example/g00886/impl.costSpan", Rows.laid_loop_example_g00886_impl_costSpan), ("loop.example/g00886/impl.shiftSpan", Rows.laid_loop_example_g00886_impl_shiftSpan), ("loop.example/g00886/impl.heightSpan", Rows.laid_loop_example_g00886_impl_heightSpan), ("loop.example/g00886/impl.kindsSpan", Rows.laid_loop_example_g00886_impl_kindsSpan), ("loop.example/g00886/impl.strengthSpan", Rows.laid_loop_example_g00886_impl_strengthSpan), ("loop.example/g00886/impl.movesSpan", Rows.laid_loop_example_g00886_impl_movesSpan), ("loop.example/g00886/impl.stepsSpan", Rows.laid_loop_example_g00886_impl_stepsSpan), ("loop.example/g00886/impl.viewSpan", Rows.laid_loop_example_g00886_impl_viewSpan), ("loop.example/g00886/impl.stackSpan", Rows.laid_loop_example_g00886_impl_stackSpan), ("loop.example/g00886/impl.riverSpan", Rows.laid_loop_example_g00886_impl_riverSpan), ("loop.example/g00886/impl.roadSpan", Rows.laid_loop_example_g00886_impl_roadSpan), ("loop.example/g00886/impl.supplySpan", Rows.laid_loop_example_g00886_impl_supplySpan), ("loop.example/g00886/impl.turnsSpan", Rows.laid_loop_example_g00886_impl_turnsSpan)] W := h
  obtain ⟨ps, hl, _⟩ := h'
  exact ⟨span_of terrainsG terrainsTy (laid_one hl (.tail _ (.head _))), span_of costG costTy (laid_one hl (.tail _ (.tail _ (.head _)))), span_of shiftG shiftTy (laid_one hl (.tail _ (.tail _ (.tail _ (.head _))))), span_of heightG heightTy (laid_one hl (.tail _ (.tail _ (.tail _ (.tail _ (.head _)))))), span_of kindsG kindsTy (laid_one hl (.tail _ (.tail _ (.tail _ (.tail _ (.tail _ (.head _))))))), span_of strengthG strengthTy (laid_one hl (.tail _ (.tail _ (.tail _ (.tail _ (.tail _ (.tail _ (.head _)))))))), span_of movesG movesTy (laid_one hl (.tail _ (.tail _ (.tail _ (.tail _ (.tail _ (.tail _ (.tail _ (.head _))))))))), span_of stepsG stepsTy (laid_one hl (.tail _ (.tail _ (.tail _ (.tail _ (.tail _ (.tail _ (.tail _ (.tail _ (.head _)))))))))), span_of viewG viewTy (laid_one hl (.tail _ (.tail _ (.tail _ (.tail _ (.tail _ (.tail _ (.tail _ (.tail _ (.tail _ (.head _))))))))))), span_of stackG stackTy (laid_one hl (.tail _ (.tail _ (.tail _ (.tail _ (.tail _ (.tail _ (.tail _ (.tail _ (.tail _ (.tail _ (.head _)))))))))))), span_of riverG riverTy (laid_one hl (.tail _ (.tail _ (.tail _ (.tail _ (.tail _ (.tail _ (.tail _ (.tail _ (.tail _ (.tail _ (.tail _ (.head _))))))))))))), span_of roadG roadTy (laid_one hl (.tail _ (.tail _ (.tail _ (.tail _ (.tail _ (.tail _ (.tail _ (.tail _ (.tail _ (.tail _ (.tail _ (.tail _ (.head _)))))))))))))), span_of supplyG supplyTy (laid_one hl (.tail _ (.tail _ (.tail _ (.tail _ (.tail _ (.tail _ (.tail _ (.tail _ (.tail _ (.tail _ (.tail _ (.tail _ (.tail _ (.head _))))))))))))))), span_of turnsG turnsTy (laid_one hl (.tail _ (.tail _ (.tail _ (.tail _ (.tail _ (.tail _ (.tail _ (.tail _ (.tail _ (.tail _ (.tail _ (.tail _ (.tail _ (.tail _ (.head _))))))))))))))))⟩

theorem tab15 {W : World} (h : laidMetH Tryz.prog [("loop.example/g00886/impl.directionSteps", Rows.laid_loop_example_g00886_impl_directionSteps), ("loop.example/g00886/impl.terrainsSpan", Rows.laid_loop_example_g00886_impl_terrainsSpan), ("loop.example/g00886/impl.costSpan", Rows.laid_loop_example_g00886_impl_costSpan), ("loop.example/g00886/impl.shiftSpan", Rows.laid_loop_example_g00886_impl_shiftSpan), ("loop.example/g00886/impl.heightSpan", Rows.laid_loop_example_g00886_impl_heightSpan), ("loop.example/g00886/impl.kindsSpan", Rows.laid_loop_example_g00886_impl_kindsSpan), ("loop.example/g00886/impl.strengthSpan", Rows.laid_loop_example_g00886_impl_strengthSpan), ("loop.example/g00886/impl.movesSpan", Rows.laid_loop_example_g00886_impl_movesSpan), ("loop.example/g00886/impl.stepsSpan", Rows.laid_loop_example_g00886_impl_stepsSpan), ("loop.example/g00886/impl.viewSpan", Rows.laid_loop_example_g00886_impl_viewSpan), ("loop.example/g00886/impl.stackSpan", Rows.laid_loop_example_g00886_impl_stackSpan), ("loop.example/g00886/impl.riverSpan", Rows.laid_loop_example_g00886_impl_riverSpan), ("loop.example/g00886/impl.roadSpan", Rows.laid_loop_example_g00886_impl_roadSpan), ("loop.example/g00886/impl.supplySpan", Rows.laid_loop_example_g00886_impl_supplySpan), ("loop.example/g00886/impl.turnsSpan", Rows.laid_loop_example_g00886_impl_turnsSpan)] W) : Tab W := by
  have h' : laidMet Tryz.prog [("loop.example/g00886/impl.directionSteps", Rows.laid_loop_example_g00886_impl_directionSteps), ("loop.example/g00886/impl.terrainsSpan", Rows.laid_loop_example_g00886_impl_terrainsSpan), ("loop.example/g00886/impl.costSpan", Rows.laid_loop_example_g00886_impl_costSpan), ("loop.example/g00886/impl.shiftSpan", Rows.laid_loop_example_g00886_impl_shiftSpan), ("loop.example/g00886/impl.heightSpan", Rows.laid_loop_example_g00886_impl_heightSpan), ("loop.example/g00886/impl.kindsSpan", Rows.laid_loop_example_g00886_impl_kindsSpan), ("loop.example/g00886/impl.strengthSpan", Rows.laid_loop_example_g00886_impl_strengthSpan), ("loop.example/g00886/impl.movesSpan", Rows.laid_loop_example_g00886_impl_movesSpan), ("loop.example/g00886/impl.stepsSpan", Rows.laid_loop_example_g00886_impl_stepsSpan), ("loop.example/g00886/impl.viewSpan", Rows.laid_loop_example_g00886_impl_viewSpan), ("loop.example/g00886/impl.stackSpan", Rows.laid_loop_example_g00886_impl_stackSpan), ("loop.example/g00886/impl.riverSpan", Rows.laid_loop_example_g00886_impl_riverSpan), ("loop.example/g00886/impl.roadSpan", Rows.laid_loop_example_g00886_impl_roadSpan), ("loop.example/g00886/impl.supplySpan", Rows.laid_loop_example_g00886_impl_supplySpan), ("loop.example/g00886/impl.turnsSpan", Rows.laid_loop_example_g00886_impl_turnsSpan)] W := h
  obtain ⟨ps, ⟨g, t, cs, fuel, p, q, h1, h2, h3, h4, _, _⟩, _⟩ := h'
  exact tab_of_laid1 ⟨g, t, cs, fuel, p, h1, h2, h3, h4⟩

noncomputable def laidWorldS (os : Os) : World :=
  setVar (setVar (setVar (setVar (setVar (setVar (setVar (setVar (setVar (setVar (setVar (setVar (setVar (setVar (laidWorld os) 1 #[.int .i64 1, .int .i64 6]) 8 #[.int .i64 0, .int .i64 9]) 9 #[.int .i64 (-3), .int .i64 3]) 10 #[.int .i64 0, .int .i64 3]) 2 #[.int .i64 1, .int .i64 4]) 11 #[.int .i64 1, .int .i64 9]) 12 #[.int .i64 0, .int .i64 9]) 13 #[.int .i64 1, .int .i64 4]) 14 #[.int .i64 0, .int .i64 4]) 3 #[.int .i64 1, .int .i64 4]) 4 #[.int .i64 0, .int .i64 9]) 5 #[.int .i64 1, .int .i64 9]) 6 #[.int .i64 0, .int .i64 20]) 7 #[.int .i64 1, .int .i64 30]

theorem len14 {α : Type} {l : List α} (h : l.length = 14) : ∃ x0 x1 x2 x3 x4 x5 x6 x7 x8 x9 x10 x11 x12 x13, l = [x0, x1, x2, x3, x4, x5, x6, x7, x8, x9, x10, x11, x12, x13] := by
  match l, h with
  | [x0, x1, x2, x3, x4, x5, x6, x7, x8, x9, x10, x11, x12, x13], _ => exact ⟨_, _, _, _, _, _, _, _, _, _, _, _, _, _, rfl⟩
theorem len15 {α : Type} {l : List α} (h : l.length = 15) : ∃ x0 x1 x2 x3 x4 x5 x6 x7 x8 x9 x10 x11 x12 x13 x14, l = [x0, x1, x2, x3, x4, x5, x6, x7, x8, x9, x10, x11, x12, x13, x14] := by
  match l, h with
  | [x0, x1, x2, x3, x4, x5, x6, x7, x8, x9, x10, x11, x12, x13, x14], _ => exact ⟨_, _, _, _, _, _, _, _, _, _, _, _, _, _, _, rfl⟩

end Go.Proofs.YtfohhofpfmbheaaGreatDoor

/-
  Small facts on rows of cells that a call owns, and on lists to which one element is added.
-/
namespace Go.Proofs.YtfohhofpfmbheaaGreatDoor
open Go.RowKit

theorem ownsRow_base {w : World} {base b : Nat} {e : TypeId} {size : Nat} {v : Value} {n : Nat} {xs : List Value} (h : w.ownsRow base e size v n xs) (hb : b ≤ base) : w.ownsRow b e size v n xs := by
  refine ⟨h.1, ?_⟩
  rcases h.2 with h | ⟨g, cap, cur, h1, h2, h3⟩
  · exact .inl h
  · exact .inr ⟨g, cap, cur, h1, by omega, h3⟩
theorem snoc_cases {α : Type} {l : List α} {a x : α} {i : Nat} (h : (l ++ [a])[i]? = some x) : (i < l.length ∧ l[i]? = some x) ∨ (i = l.length ∧ x = a) := by
  rcases Nat.lt_or_ge i l.length with hi | hi
  · rw [List.getElem?_append_left hi] at h
    exact .inl ⟨hi, h⟩
  · rw [List.getElem?_append_right hi] at h
    match e : i - l.length, h with
    | 0, h =>
      simp at h
      exact .inr ⟨by omega, h.symm⟩
    | n + 1, h => simp at h

end Go.Proofs.YtfohhofpfmbheaaGreatDoor

/-
  IndexOf and HexAt, the program's and the reference's: what plain functions say, and nothing that was there is changed. The table of directions holds what the program's text lays.
-/
namespace Go.Proofs.YtfohhofpfmbheaaGreatDoor
open Go.RowKit

theorem live2_keep {w w' : World} {b : Nat} {u0 u1 : Value} (k : Kp w w') (h : (w.cell? ⟨b, 0, none⟩ = some u0 ∧ w.frozen? ⟨b, 0, none⟩ = false) ∧ (w.cell? ⟨b, 1, none⟩ = some u1 ∧ w.frozen? ⟨b, 1, none⟩ = false)) :
    (w'.cell? ⟨b, 0, none⟩ = some u0 ∧ w'.frozen? ⟨b, 0, none⟩ = false) ∧ (w'.cell? ⟨b, 1, none⟩ = some u1 ∧ w'.frozen? ⟨b, 1, none⟩ = false) := ⟨k.liv h.1, k.liv h.2⟩

theorem hexAt_any (W H : Int) (t r d : Value) (lt lr ld : List Int) (i : Int) (w : World) (ht : Tab w) (hL : Lists w t r d lt lr ld) :
    Calls Tryz.prog 122 #[mp W H t r d, .int .i64 i] w fun e w' => e = .returned (hb3 (mapOk W H lt lr ld && onI W H i) (i % W) (i / W)) ∧ Kp w w' := by
  have HL := Lib.hid hL
  have HT := Lib.hid ht
  clear hL ht
  have s0 := keep5 ((Kp.refl _).alloc (.cells #[.int .i64 0, .int .i64 0] 86)) (new5 w (.int .i64 W) (.int .i64 H) t r d 39)
  cases hm : mapOk W H lt lr ld
  · rw [Bool.false_and]
    go_enter Tryz.func122, Tryz.ntmps122
    go_wp2_with fail
    refine (isMap_any _ _ _ _ _ lt lr ld _ (HT.out.k5 s0) (HL.out.keep s0.2.2.2.2.2)).mono ?_
    rintro e1 w1 ⟨rfl, k1⟩
    have l1 := live2_keep (b := w.heap.size + 1) (u0 := .int .i64 0) (u1 := .int .i64 0) k1 ⟨by simp [go_sem], by simp [go_sem]⟩
    have K1 := s0.2.2.2.2.2.trans k1
    clear s0 k1
    go_wp2_with fail
    exact bodyPost_ret (v := hb3 false (i % W) (i / W)) (by simp [results, Tryz.results122, go_sem, *, vI]) rfl ⟨rfl, (K1.setCell (by simp) _).setCell (by simp) _⟩
  · rw [Bool.true_and]
    obtain ⟨a, b, c, e⟩ := mapOk_side hm
    have hA := area_bd a b c e
    cases ho : onI W H i
    · go_enter Tryz.func122, Tryz.ntmps122
      go_wp2_with fail
      refine (isMap_any _ _ _ _ _ lt lr ld _ (HT.out.k5 s0) (HL.out.keep s0.2.2.2.2.2)).mono ?_
      rintro e1 w1 ⟨rfl, k1⟩
      have l1 := live2_keep (b := w.heap.size + 1) (u0 := .int .i64 0) (u1 := .int .i64 0) k1 ⟨by simp [go_sem], by simp [go_sem]⟩
      have s1 := keep5 k1 s0
      clear s0 k1
      go_wp2_with fail
      refine (isIndex_any _ _ _ _ _ _ _ a b c e).mono ?_
      rintro e2 w2 ⟨rfl, k2⟩
      have l2 := live2_keep k2 l1
      have K2 := s1.2.2.2.2.2.trans k2
      clear s1 l1 k2
      go_wp2_with fail
      exact bodyPost_ret (v := hb3 false (i % W) (i / W)) (by simp [results, Tryz.results122, go_sem, *, vI]) rfl ⟨rfl, (K2.setCell (by simp) _).setCell (by simp) _⟩
    · obtain ⟨i0, i1⟩ := onI_true ho
      go_enter Tryz.func122, Tryz.ntmps122
      go_wp2_with fail
      refine (isMap_any _ _ _ _ _ lt lr ld _ (HT.out.k5 s0) (HL.out.keep s0.2.2.2.2.2)).mono ?_
      rintro e1 w1 ⟨rfl, k1⟩
      have l1 := live2_keep (b := w.heap.size + 1) (u0 := .int .i64 0) (u1 := .int .i64 0) k1 ⟨by simp [go_sem], by simp [go_sem]⟩
      have s1 := keep5 k1 s0
      clear s0 k1
      go_wp2_with fail
      refine (isIndex_any _ _ _ _ _ _ _ a b c e).mono ?_
      rintro e2 w2 ⟨rfl, k2⟩
      have l2 := live2_keep k2 l1
      have s2 := keep5 k2 s1
      clear s1 l1 k2
      go_wp2_with fail
      refine (hexWithIndex_any _ _ _ _ _ _ _ a b i0 (by omega)).mono ?_
      rintro e3 w3 ⟨rfl, k3⟩
      have l3 := live2_keep k3 l2
      have K3 := s2.2.2.2.2.2.trans k3
      clear s2 l2 k3
      go_wp2_with fail
      exact bodyPost_ret (v := hb3 true (i % W) (i / W)) (by simp [results, Tryz.results122, go_sem, *, vI]) rfl ⟨rfl, (K3.setCell (by simp) _).setCell (by simp) _⟩

end Go.Proofs.YtfohhofpfmbheaaGreatDoor

/-
  The functions on distances return what a plain function on integers says, for valid hexes, and change nothing that was there.
-/
namespace Go.Proofs.YtfohhofpfmbheaaGreatDoor
open Go.RowKit

def absI (n : Int) : Int := if n < 0 then -n else n
def distI (q r : Int) : Int := (absI q + absI r + absI (q + r)) / 2
def distH (aq ar bq br : Int) : Int := distI (bq - aq) (br - ar)
theorem absI_neg {n : Int} (h : n < 0) : absI n = -n := by simp [absI, h]
theorem absI_pos {n : Int} (h : ¬ n < 0) : absI n = n := by simp [absI, h]
theorem absI_bd (n : Int) : 0 ≤ absI n ∧ n ≤ absI n ∧ -n ≤ absI n ∧ (absI n ≤ n ∨ absI n ≤ -n) := by unfold absI; split <;> omega

theorem absolute_any (n : Int) (w : World) (h1 : -1000 ≤ n) (h2 : n ≤ 1000) :
    Calls Tryz.prog 138 #[.int .i64 n] w fun e w' => e = .returned (.int .i64 (absI n)) ∧ w' = w := by
  by_cases h : n < 0
  · go_enter Tryz.func138, Tryz.ntmps138
    go_wp2
    go_ret
    exact ⟨ret_int (absI_neg h).symm, rfl⟩
  · go_enter Tryz.func138, Tryz.ntmps138
    go_wp2
    go_ret
    exact ⟨ret_int (absI_pos (by omega)).symm, rfl⟩

theorem l1Abs_any (n : Int) (w : World) (h1 : -1000 ≤ n) (h2 : n ≤ 1000) :
    Calls Tryz.prog 126 #[.int .i64 n] w fun e w' => e = .returned (.int .i64 (absI n)) ∧ w = w' := by
  by_cases h : n < 0
  · go_enter Tryz.func126, Tryz.ntmps126
    go_wp2
    go_ret
    exact ⟨ret_int (absI_neg h).symm, rfl⟩
  · by_cases h0 : n = 0
    · subst h0
      go_enter Tryz.func126, Tryz.ntmps126
      go_wp2
      go_ret
      exact ⟨ret_int (absI_pos (by omega)).symm, rfl⟩
    · go_enter Tryz.func126, Tryz.ntmps126
      go_wp2
      go_ret
      exact ⟨ret_int (absI_pos (by omega)).symm, rfl⟩

theorem length_any (q r : Int) (w : World) (h1 : -400 ≤ q) (h2 : q ≤ 400) (h3 : -400 ≤ r) (h4 : r ≤ 400) :
    Calls Tryz.prog 123 #[hx q r] w fun e w' => e = .returned (.int .i64 (distI q r)) ∧ Kp w w' := by
  have b1 := absI_bd q
  have b2 := absI_bd r
  have b3 := absI_bd (q + r)
  go_enter Tryz.func123, Tryz.ntmps123
  go_wp2
  go_quiet ((go_at_call 138; exact Calls.quiet_of_same (absolute_any _ _ (by omega) (by omega))))
  go_wp2
  go_ret
  exact ⟨rfl, ((Kp.refl _).alloc _).drewN _⟩

theorem hDistance_any (aq ar bq br : Int) (w : World) (h1 : -200 ≤ aq) (h2 : aq ≤ 200) (h3 : -200 ≤ ar) (h4 : ar ≤ 200) (h5 : -200 ≤ bq) (h6 : bq ≤ 200) (h7 : -200 ≤ br) (h8 : br ≤ 200) :
    Calls Tryz.prog 101 #[hx aq ar, hx bq br] w fun e w' => e = .returned (.int .i64 (distH aq ar bq br)) ∧ Kp w w' := by
  have b1 := absI_bd (bq - aq)
  have b2 := absI_bd (br - ar)
  have b3 := absI_bd (bq - aq + (br - ar))
  go_enter Tryz.func101, Tryz.ntmps101
  go_wp2
  go_quiet (fail)
  go_wp2_with (go_at_call 126; refine (l1Abs_any _ _ (by omega) (by omega)).mono ?_; rintro e w' ⟨rfl, rfl⟩)
  go_ret
  exact ⟨rfl, (((Kp.refl _).alloc _).alloc _).drewN _⟩

def ok2 (aq ar bq br : Int) : Bool := okH aq ar && okH bq br
def distOf (aq ar bq br : Int) : Int := if ok2 aq ar bq br = true then distH aq ar bq br else 0
theorem distOf_yes {aq ar bq br : Int} (h : okH aq ar = true) (h' : okH bq br = true) : distOf aq ar bq br = distH aq ar bq br ∧ ok2 aq ar bq br = true := by
  have e : ok2 aq ar bq br = true := by simp [ok2, h, h']
  exact ⟨by simp [distOf, e], e⟩
theorem distOf_no1 {aq ar bq br : Int} (h : okH aq ar = false) : distOf aq ar bq br = 0 ∧ ok2 aq ar bq br = false := by
  have e : ok2 aq ar bq br = false := by simp [ok2, h]
  exact ⟨by simp [distOf, e], e⟩
theorem distOf_no2 {aq ar bq br : Int} (h : okH bq br = false) : distOf aq ar bq br = 0 ∧ ok2 aq ar bq br = false := by
  have e : ok2 aq ar bq br = false := by simp [ok2, h]
  exact ⟨by simp [distOf, e], e⟩
theorem ret_ib {a b : Int} {c d : Bool} (h : b = a ∧ d = c) : Ending.returned (.tuple #[.int .i64 a, .bool c]) = .returned (.tuple #[.int .i64 b, .bool d]) := by rw [h.1, h.2]

theorem distanceOf_any (aq ar bq br : Int) (w : World) :
    Calls Tryz.prog 106 #[hx aq ar, hx bq br] w fun e w' => e = .returned (.tuple #[.int .i64 (distOf aq ar bq br), .bool (ok2 aq ar bq br)]) ∧ Kp w w' := by
  cases ha : okH aq ar
  · go_enter Tryz.func106, Tryz.ntmps106
    go_wp2_with (go_at_call 130; refine (isHex_any _ _ _).mono ?_; rintro e w1 ⟨rfl, hk⟩)
    go_ret2
    exact ⟨ret_ib (distOf_no1 ha), (((Kp.refl _).alloc _).alloc _).trans hk⟩
  · cases hb : okH bq br
    · go_enter Tryz.func106, Tryz.ntmps106
      go_wp2_with (go_at_call 130; refine (isHex_any _ _ _).mono ?_; rintro e w1 ⟨rfl, hk⟩; obtain ⟨hc, hf⟩ := hk.cells; have hz : w.heap.size < w1.heap.size := (by have := hk.size; (try simp at this); omega); have hz' : w.heap.size + 1 < w1.heap.size := (by have := hk.size; (try simp at this); omega))
      go_ret2
      exact ⟨ret_ib (distOf_no2 hb), by repeat (first | exact (((Kp.refl _).alloc _).alloc _) | refine Kp.trans ?_ (by assumption))⟩
    · have A1 := okH_true ha
      have B1 := okH_true hb
      go_enter Tryz.func106, Tryz.ntmps106
      go_wp2_with (first | (go_at_call 130; refine (isHex_any _ _ _).mono ?_; rintro e w1 ⟨rfl, hk⟩; obtain ⟨hc, hf⟩ := hk.cells; have hz : w.heap.size < w1.heap.size := (by have := hk.size; (try simp at this); omega); have hz' : w.heap.size + 1 < w1.heap.size := (by have := hk.size; (try simp at this); omega)) | (go_at_call 107; refine (offsetTo_any _ _ _ _ _ (by omega) (by omega) (by omega) (by omega) (by omega) (by omega) (by omega) (by omega)).mono ?_; rintro e w1 ⟨rfl, hk⟩) | (go_at_call 123; refine (length_any _ _ _ (by omega) (by omega) (by omega) (by omega)).mono ?_; rintro e w1 ⟨rfl, hk⟩))
      go_ret2
      exact ⟨ret_ib (distOf_yes ha hb), by repeat (first | exact (((Kp.refl _).alloc _).alloc _) | refine Kp.trans ?_ (by assumption))⟩

end Go.Proofs.YtfohhofpfmbheaaGreatDoor

/-
  The hexes near a place of a map, the program's and the reference's: the same list, in memory of its own, or none. Nothing that was there is changed. The table of directions holds what the program's text lays.
-/
namespace Go.Proofs.YtfohhofpfmbheaaGreatDoor
open Go.RowKit

def nrB (W X Y rad : Int) (k : Nat) : Bool := decide (distI ((k : Int) % W - X) ((k : Int) / W - Y) ≤ rad)
def nearF (W X Y rad : Int) : Nat → List Int
  | 0 => []
  | k + 1 => nearF W X Y rad k ++ if nrB W X Y rad k = true then [(k : Int)] else []
theorem nearF_len (W X Y rad : Int) : ∀ k, (nearF W X Y rad k).length ≤ k
  | 0 => Nat.le_refl _
  | k + 1 => by
    have := nearF_len W X Y rad k
    rw [nearF, List.length_append]
    split <;> simp <;> omega

theorem grow5 {W0 w w1 : World} {b : Nat} {v0 v1 v2 v3 v4 : Value} {row : Option Nat} (g : w.grownBy w1 row) (hne : some b ≠ row) (hr : ∀ k, row = some k → W0.heap.size ≤ k)
    (h : w.cell? ⟨b, 0, none⟩ = some v0 ∧ w.cell? ⟨b, 1, none⟩ = some v1 ∧ w.cell? ⟨b, 2, none⟩ = some v2 ∧ w.cell? ⟨b, 3, none⟩ = some v3 ∧ w.cell? ⟨b, 4, none⟩ = some v4 ∧ Kp W0 w) :
    w1.cell? ⟨b, 0, none⟩ = some v0 ∧ w1.cell? ⟨b, 1, none⟩ = some v1 ∧ w1.cell? ⟨b, 2, none⟩ = some v2 ∧ w1.cell? ⟨b, 3, none⟩ = some v3 ∧ w1.cell? ⟨b, 4, none⟩ = some v4 ∧ Kp W0 w1 :=
  ⟨g.cell h.1 hne, g.cell h.2.1 hne, g.cell h.2.2.1 hne, g.cell h.2.2.2.1 hne, g.cell h.2.2.2.2.1 hne, h.2.2.2.2.2.grown g hr⟩
theorem keep7h {W0 w w1 : World} {b b' : Nat} {v0 v1 v2 v3 v4 u0 u1 : Value} (k : Kp w w1)
    (h : (w.cell? ⟨b, 0, none⟩ = some v0 ∧ w.cell? ⟨b, 1, none⟩ = some v1 ∧ w.cell? ⟨b, 2, none⟩ = some v2 ∧ w.cell? ⟨b, 3, none⟩ = some v3 ∧ w.cell? ⟨b, 4, none⟩ = some v4 ∧ Kp W0 w) ∧ w.cell? ⟨b', 0, none⟩ = some u0 ∧ w.cell? ⟨b', 1, none⟩ = some u1) :
    (w1.cell? ⟨b, 0, none⟩ = some v0 ∧ w1.cell? ⟨b, 1, none⟩ = some v1 ∧ w1.cell? ⟨b, 2, none⟩ = some v2 ∧ w1.cell? ⟨b, 3, none⟩ = some v3 ∧ w1.cell? ⟨b, 4, none⟩ = some v4 ∧ Kp W0 w1) ∧ w1.cell? ⟨b', 0, none⟩ = some u0 ∧ w1.cell? ⟨b', 1, none⟩ = some u1 := ⟨keep5 k h.1, k.two h.2⟩
theorem drew7h {W0 w : World} {b b' : Nat} {v0 v1 v2 v3 v4 u0 u1 : Value}
    (h : (w.cell? ⟨b, 0, none⟩ = some v0 ∧ w.cell? ⟨b, 1, none⟩ = some v1 ∧ w.cell? ⟨b, 2, none⟩ = some v2 ∧ w.cell? ⟨b, 3, none⟩ = some v3 ∧ w.cell? ⟨b, 4, none⟩ = some v4 ∧ Kp W0 w) ∧ w.cell? ⟨b', 0, none⟩ = some u0 ∧ w.cell? ⟨b', 1, none⟩ = some u1) :
    (w.drew.cell? ⟨b, 0, none⟩ = some v0 ∧ w.drew.cell? ⟨b, 1, none⟩ = some v1 ∧ w.drew.cell? ⟨b, 2, none⟩ = some v2 ∧ w.drew.cell? ⟨b, 3, none⟩ = some v3 ∧ w.drew.cell? ⟨b, 4, none⟩ = some v4 ∧ Kp W0 w.drew) ∧ w.drew.cell? ⟨b', 0, none⟩ = some u0 ∧ w.drew.cell? ⟨b', 1, none⟩ = some u1 := ⟨drew5 h.1, h.2⟩

set_option maxRecDepth 100000 in
set_option maxHeartbeats 4000000 in
theorem nearOn_yes (W H : Int) (t r d : Value) (lt lr ld : List Int) (i rad : Int) (w : World) (ht : Tab w) (hL : Lists w t r d lt lr ld) (hm : mapOk W H lt lr ld = true) (ho : onI W H i = true) (r0 : 0 ≤ rad) (r1 : rad ≤ 20) :
    Calls Tryz.prog 92 #[mp W H t r d, .int .i64 i, .int .i64 rad] w (ListPostI true (nearF W (i % W) (i / W) rad (W * H).toNat) w) := by
  obtain ⟨a, b, c, e⟩ := mapOk_side hm
  have hA := area_bd a b c e
  obtain ⟨i0, i1⟩ := onI_true ho
  have hh := hex_bd a b i0 i1
  have s0 := new5 w (.int .i64 W) (.int .i64 H) t r d 39
  obtain ⟨X, hX⟩ : ∃ X, i % W = X := ⟨_, rfl⟩
  obtain ⟨Y, hY⟩ : ∃ Y, i / W = Y := ⟨_, rfl⟩
  have HC : Hid (Calls Tryz.prog 122 #[mp W H t r d, .int .i64 i] (w.alloc (.cells #[.int .i64 W, .int .i64 H, t, r, d] 39)) fun e w' => e = .returned (.tuple #[hx X Y, .bool true]) ∧ Kp (w.alloc (.cells #[.int .i64 W, .int .i64 H, t, r, d] 39)) w') := Lib.hid (by
    have := hexAt_any W H t r d lt lr ld i _ (ht.k5 s0) (hL.keep s0.2.2.2.2.2)
    rw [hm, ho, hX, hY] at this
    exact this)
  rw [hX, hY] at hh ⊢
  obtain ⟨N, hN⟩ : ∃ N : Nat, (N : Int) = W * H := ⟨(W * H).toNat, by omega⟩
  have hNn : (W * H).toNat = N := by omega
  rw [hNn]
  have CC : Hid (∀ w, Calls Tryz.prog 95 #[mp W H t r d] w fun e w' => e = .returned (.int .i64 N) ∧ Kp w w') := Lib.hid fun w => by
    rw [hN]
    exact countHexes_any W H t r d w a b c e
  obtain ⟨j0, hj0, hz0, hs0, hb0⟩ := info_parts infoInt
  have hN1 : N ≤ 100 := by omega
  have hk : ∀ k : Nat, k < N → 0 ≤ (k : Int) % W ∧ (k : Int) % W < W ∧ 0 ≤ (k : Int) / W ∧ (k : Int) / W < H := fun k hk => hex_bd a b (by omega) (by omega)
  have HK := Lib.hid hk
  clear ht hL hm ho hX hY hN hNn hk hA i0 i1
  go_enter Tryz.func92, Tryz.ntmps92
  go_wp2_with fail
  refine HC.out.mono ?_
  rintro e1 w1 ⟨rfl, k1⟩
  have s1 : ((w1.alloc (.cells #[.int .i64 X, .int .i64 Y] 86)).cell? ⟨w.heap.size, 0, none⟩ = some (.int .i64 W) ∧ (w1.alloc (.cells #[.int .i64 X, .int .i64 Y] 86)).cell? ⟨w.heap.size, 1, none⟩ = some (.int .i64 H) ∧ (w1.alloc (.cells #[.int .i64 X, .int .i64 Y] 86)).cell? ⟨w.heap.size, 2, none⟩ = some t ∧ (w1.alloc (.cells #[.int .i64 X, .int .i64 Y] 86)).cell? ⟨w.heap.size, 3, none⟩ = some r ∧ (w1.alloc (.cells #[.int .i64 X, .int .i64 Y] 86)).cell? ⟨w.heap.size, 4, none⟩ = some d ∧ Kp w (w1.alloc (.cells #[.int .i64 X, .int .i64 Y] 86))) ∧ (w1.alloc (.cells #[.int .i64 X, .int .i64 Y] 86)).cell? ⟨w1.heap.size, 0, none⟩ = some (.int .i64 X) ∧ (w1.alloc (.cells #[.int .i64 X, .int .i64 Y] 86)).cell? ⟨w1.heap.size, 1, none⟩ = some (.int .i64 Y) :=
    ⟨keep5 (k1.trans ((Kp.refl w1).alloc _)) s0, by simp [go_sem], by simp [go_sem]⟩
  have hz1 : w.heap.size < w1.heap.size := by have := k1.size; simp at this; omega
  clear s0 k1 HC
  go_wp2_with fail
  refine (CC.out _).mono ?_
  rintro e2 w2 ⟨rfl, k2⟩
  have s2 := keep7h k2 s1
  have hz2 : w1.heap.size < w2.heap.size := by have := k2.size; simp at this; omega
  clear s1 k2
  go_wp2_with fail
  generalize w1.heap.size = b8 at *
  go_loopw [10, 11, 30] (fun v _ s30 wx => ∃ k : Nat, k ≤ N ∧ s30 = .int .i64 k ∧ OwnI wx (b8 + 1) v (nearF W X Y rad k) ∧
    ((wx.cell? ⟨w.heap.size, 0, none⟩ = some (.int .i64 W) ∧ wx.cell? ⟨w.heap.size, 1, none⟩ = some (.int .i64 H) ∧ wx.cell? ⟨w.heap.size, 2, none⟩ = some t ∧ wx.cell? ⟨w.heap.size, 3, none⟩ = some r ∧ wx.cell? ⟨w.heap.size, 4, none⟩ = some d ∧ Kp w wx) ∧ wx.cell? ⟨b8, 0, none⟩ = some (.int .i64 X) ∧ wx.cell? ⟨b8, 1, none⟩ = some (.int .i64 Y))) (fun _ _ s30 _ => N - (intOf s30).toNat)
  case atStart => exact ⟨0, by omega, rfl, OwnI.nil _ _, s2⟩
  case round =>
    clear s2 hz2
    obtain ⟨k, hkN, rfl, hoR, sr⟩ := hrel
    by_cases hlt : k < N
    · have hlt' : (k : Int) < N := by omega
      have hkb := HK.out k hlt
      have HO := Lib.hid hoR
      have b8lt : b8 < wr.heap.size := cell_lt sr.2.1
      have sd : (wr.drew.cell? ⟨w.heap.size, 0, none⟩ = some (.int .i64 W) ∧ wr.drew.cell? ⟨w.heap.size, 1, none⟩ = some (.int .i64 H) ∧ wr.drew.cell? ⟨w.heap.size, 2, none⟩ = some t ∧ wr.drew.cell? ⟨w.heap.size, 3, none⟩ = some r ∧ wr.drew.cell? ⟨w.heap.size, 4, none⟩ = some d ∧ Kp wr wr.drew) ∧ wr.drew.cell? ⟨b8, 0, none⟩ = some (.int .i64 X) ∧ wr.drew.cell? ⟨b8, 1, none⟩ = some (.int .i64 Y) :=
        ⟨⟨sr.1.1, sr.1.2.1, sr.1.2.2.1, sr.1.2.2.2.1, sr.1.2.2.2.2.1, (Kp.refl wr).drew⟩, sr.2⟩
      have Kr := sr.1.2.2.2.2.2
      clear hoR
      cases hnr : nrB W X Y rad k
      · have HS : Hid (nearF W X Y rad (k + 1) = nearF W X Y rad k) := Lib.hid (by rw [nearF, hnr]; simp)
        have hd : decide (distI ((k : Int) % W - X) ((k : Int) / W - Y) ≤ rad) = false := hnr
        clear hnr
        go_wp2_with fail
        go_region_held3 (fun w' => (w'.cell? ⟨w.heap.size, 0, none⟩ = some (.int .i64 W) ∧ w'.cell? ⟨w.heap.size, 1, none⟩ = some (.int .i64 H) ∧ w'.cell? ⟨w.heap.size, 2, none⟩ = some t ∧ w'.cell? ⟨w.heap.size, 3, none⟩ = some r ∧ w'.cell? ⟨w.heap.size, 4, none⟩ = some d ∧ Kp wr w') ∧ w'.cell? ⟨b8, 0, none⟩ = some (.int .i64 X) ∧ w'.cell? ⟨b8, 1, none⟩ = some (.int .i64 Y)) (first | assumption | exact sd)
          (first
            | (go_at_call 80; refine (hexWithIndex_any _ _ _ _ _ _ _ a b (by omega) (by omega)).mono ?_; rintro e3 wa ⟨rfl, ka⟩; have sa := keep7h ka sd)
            | (go_at_call 107; refine (offsetTo_any _ _ _ _ _ (by omega) (by omega) (by omega) (by omega) (by omega) (by omega) (by omega) (by omega)).mono ?_; rintro e4 wb ⟨rfl, kb⟩; have sb := keep7h kb sa)
            | (go_at_call 123; refine (length_any _ _ _ (by omega) (by omega) (by omega) (by omega)).mono ?_; rintro e5 wc ⟨rfl, kc⟩; have sc := keep7h kc sb))
        have Kc : Kp wr wc := sc.1.2.2.2.2.2
        clear sd sa sb
        go_wp2_with fail
        go_roundw
        case rel => exact ⟨k + 1, by omega, by go_num, by rw [HS.out]; exact HO.out.keep Kc, ⟨sc.1.1, sc.1.2.1, sc.1.2.2.1, sc.1.2.2.2.1, sc.1.2.2.2.2.1, Kr.trans Kc⟩, sc.2⟩
        case measure => simp [intOf]; omega
      · have HS : Hid (nearF W X Y rad (k + 1) = nearF W X Y rad k ++ [(k : Int)]) := Lib.hid (by rw [nearF, hnr]; simp)
        have hd : distI ((k : Int) % W - X) ((k : Int) / W - Y) ≤ rad := of_decide_eq_true hnr
        have hln := Lib.hid (nearF_len W X Y rad k)
        clear hnr
        go_wp2_with fail
        go_region_held3 (fun w' => (w'.cell? ⟨w.heap.size, 0, none⟩ = some (.int .i64 W) ∧ w'.cell? ⟨w.heap.size, 1, none⟩ = some (.int .i64 H) ∧ w'.cell? ⟨w.heap.size, 2, none⟩ = some t ∧ w'.cell? ⟨w.heap.size, 3, none⟩ = some r ∧ w'.cell? ⟨w.heap.size, 4, none⟩ = some d ∧ Kp wr w') ∧ w'.cell? ⟨b8, 0, none⟩ = some (.int .i64 X) ∧ w'.cell? ⟨b8, 1, none⟩ = some (.int .i64 Y)) (first | assumption | exact sd)
          (first
            | (go_at_call 80; refine (hexWithIndex_any _ _ _ _ _ _ _ a b (by omega) (by omega)).mono ?_; rintro e3 wa ⟨rfl, ka⟩; have sa := keep7h ka sd)
            | (go_at_call 107; refine (offsetTo_any _ _ _ _ _ (by omega) (by omega) (by omega) (by omega) (by omega) (by omega) (by omega) (by omega)).mono ?_; rintro e4 wb ⟨rfl, kb⟩; have sb := keep7h kb sa)
            | (go_at_call 123; refine (length_any _ _ _ (by omega) (by omega) (by omega) (by omega)).mono ?_; rintro e5 wc ⟨rfl, kc⟩; have sc := keep7h kc sb))
        have Kc : Kp wr wc := sc.1.2.2.2.2.2
        have O1 := Lib.hid (HO.out.keep Kc)
        have hcs := Kc.size
        have s3 : (wc.cell? ⟨w.heap.size, 0, none⟩ = some (.int .i64 W) ∧ wc.cell? ⟨w.heap.size, 1, none⟩ = some (.int .i64 H) ∧ wc.cell? ⟨w.heap.size, 2, none⟩ = some t ∧ wc.cell? ⟨w.heap.size, 3, none⟩ = some r ∧ wc.cell? ⟨w.heap.size, 4, none⟩ = some d ∧ Kp w wc) ∧ wc.cell? ⟨b8, 0, none⟩ = some (.int .i64 X) ∧ wc.cell? ⟨b8, 1, none⟩ = some (.int .i64 Y) :=
          ⟨⟨sc.1.1, sc.1.2.1, sc.1.2.2.1, sc.1.2.2.2.1, sc.1.2.2.2.2.1, Kr.trans Kc⟩, sc.2⟩
        have n1 := Lib.hid (HO.out.not (g := w.heap.size) (by omega))
        have n2 := Lib.hid (HO.out.not (g := b8) (by omega))
        clear sd sa sb sc sr
        go_wp2_with (at_builtin; refine wpList_append_own_at _ rfl (.tmp 41) (.tmp 43) 26 rfl (b8 + 1) 3 j0 (.int .i64 0) 1 8 Tryz.underlying26 hj0 hz0 hs0 hb0 rfl (by decide) _ (nearF W X Y rad k).length (cellsI (nearF W X Y rad k)) rfl (World.ownsRow.alloc O1.out _) ⟨wc.heap.size, 0, none⟩ 1 1 [.int .i64 k] rfl rfl (one_cell _ _ _) (by simp [Value.oneCell']) (by have := hln.out; simp only [maxLen]; omega) (by have := hln.out; omega) (by simp; omega) ?_; intro v' w3 hown2 hgrow2 hnil2 hat2; clear hnil2 hat2; have s4 := keep7h ((Kp.refl wc).alloc (.cells #[.int .i64 k] 3)) s3; have s5 := grow5 hgrow2 (fun e => n1.out e.symm) (fun k e => by have := (World.ownsRow.lt O1.out k e).1; omega) s4.1; have q0 := hgrow2.cell s4.2.1 (fun e => n2.out e.symm); have q1 := hgrow2.cell s4.2.2 (fun e => n2.out e.symm); have O3 := Lib.hid (OwnI.snoc (x := k) hown2); clear hown2 hgrow2 s3 s4)
        go_roundw
        case rel => exact ⟨k + 1, by omega, by go_num, by rw [HS.out]; exact O3.out, s5, q0, q1⟩
        case measure => simp [intOf]; omega
    · obtain rfl : k = N := by omega
      go_wp2_with fail
      go_ret2
      exact ⟨_, rfl, hoR.base (by omega), sr.1.2.2.2.2.2⟩

end Go.Proofs.YtfohhofpfmbheaaGreatDoor

/-
  The hexes near a place of a map: the reference's list, and both functions at whatever arguments. Nothing that was there is changed. The table of directions holds what the program's text lays.
-/
namespace Go.Proofs.YtfohhofpfmbheaaGreatDoor
open Go.RowKit

def NewPostI (l : List Int) (w : World) (e : Ending) (w' : World) : Prop := ∃ v, e = .returned v ∧ OwnI w' w.heap.size v l ∧ Kp w w'

set_option maxRecDepth 100000 in
set_option maxHeartbeats 4000000 in
theorem mNear_any (W H : Int) (t r d : Value) (i rad : Int) (w : World) (a : 1 ≤ W) (b : W ≤ 10) (c : 1 ≤ H) (e : H ≤ 10) (i0 : 0 ≤ i) (i1 : i < W * H) :
    Calls Tryz.prog 91 #[mp W H t r d, .int .i64 i, .int .i64 rad] w (NewPostI (nearF W (i % W) (i / W) rad (W * H).toNat) w) := by
  have hA := area_bd a b c e
  have hh := hex_bd a b i0 i1
  have s0 := new5 w (.int .i64 W) (.int .i64 H) t r d 39
  obtain ⟨N, hN⟩ : ∃ N : Nat, (N : Int) = W * H := ⟨(W * H).toNat, by omega⟩
  have hNn : (W * H).toNat = N := by omega
  rw [hNn]
  have CC : Hid (∀ w, Calls Tryz.prog 90 #[mp W H t r d] w fun e w' => e = .returned (.int .i64 N) ∧ Kp w w') := Lib.hid fun w => by
    rw [hN]
    exact mSize_any W H t r d w a b c e
  obtain ⟨j0, hj0, hz0, hs0, hb0⟩ := info_parts infoInt
  have hN1 : N ≤ 100 := by omega
  have hi1 : i ≤ 100 := by omega
  have hk : ∀ k : Nat, k < N → 0 ≤ (k : Int) % W ∧ (k : Int) % W < W ∧ 0 ≤ (k : Int) / W ∧ (k : Int) / W < H := fun k hk => hex_bd a b (by omega) (by omega)
  have HK := Lib.hid hk
  clear hN hNn hk hA i1
  go_enter Tryz.func91, Tryz.ntmps91
  go_wp2_with fail
  go_loopw [7, 8] (fun v s8 wx => ∃ k : Nat, k ≤ N ∧ s8 = .int .i64 k ∧ OwnI wx (w.heap.size + 1) v (nearF W (i % W) (i / W) rad k) ∧
    (wx.cell? ⟨w.heap.size, 0, none⟩ = some (.int .i64 W) ∧ wx.cell? ⟨w.heap.size, 1, none⟩ = some (.int .i64 H) ∧ wx.cell? ⟨w.heap.size, 2, none⟩ = some t ∧ wx.cell? ⟨w.heap.size, 3, none⟩ = some r ∧ wx.cell? ⟨w.heap.size, 4, none⟩ = some d ∧ Kp w wx)) (fun _ s8 _ => N - (intOf s8).toNat)
  case atStart => exact ⟨0, by omega, rfl, OwnI.nil _ _, s0⟩
  case round =>
    clear s0
    obtain ⟨k, hkN, rfl, hoR, sr⟩ := hrel
    by_cases hlt : k < N
    · have hlt' : (k : Int) < N := by omega
      have hkb := HK.out k hlt
      have HO := Lib.hid hoR
      clear hoR
      go_wp2_with fail
      refine (CC.out _).mono ?_
      rintro e2 wt ⟨rfl, kt⟩
      have st := keep5 kt sr
      have HO1 := Lib.hid (HO.out.keep kt)
      have Kt : Kp w wt := st.2.2.2.2.2
      have sd : wt.drew.cell? ⟨w.heap.size, 0, none⟩ = some (.int .i64 W) ∧ wt.drew.cell? ⟨w.heap.size, 1, none⟩ = some (.int .i64 H) ∧ wt.drew.cell? ⟨w.heap.size, 2, none⟩ = some t ∧ wt.drew.cell? ⟨w.heap.size, 3, none⟩ = some r ∧ wt.drew.cell? ⟨w.heap.size, 4, none⟩ = some d ∧ Kp wt wt.drew :=
        ⟨st.1, st.2.1, st.2.2.1, st.2.2.2.1, st.2.2.2.2.1, (Kp.refl wt).drew⟩
      have blt : w.heap.size < wt.heap.size := cell_lt st.1
      clear sr HO
      cases hnr : nrB W (i % W) (i / W) rad k
      · have HS : Hid (nearF W (i % W) (i / W) rad (k + 1) = nearF W (i % W) (i / W) rad k) := Lib.hid (by rw [nearF, hnr]; simp)
        have hd : decide (distH (i % W) (i / W) ((k : Int) % W) ((k : Int) / W) ≤ rad) = false := hnr
        clear hnr
        go_wp2_with fail
        go_region_held3 (fun w' => w'.cell? ⟨w.heap.size, 0, none⟩ = some (.int .i64 W) ∧ w'.cell? ⟨w.heap.size, 1, none⟩ = some (.int .i64 H) ∧ w'.cell? ⟨w.heap.size, 2, none⟩ = some t ∧ w'.cell? ⟨w.heap.size, 3, none⟩ = some r ∧ w'.cell? ⟨w.heap.size, 4, none⟩ = some d ∧ Kp wt w') (first | assumption | exact sd)
          (first
            | (go_at_call_of 73 i; refine (mHex_any _ _ _ _ _ _ _ a b i0 (by omega)).mono ?_; rintro e3 wa ⟨rfl, ka⟩; have sa := keep5 ka sd)
            | (go_at_call 73; refine (mHex_any _ _ _ _ _ _ _ a b (by omega) (by omega)).mono ?_; rintro e4 wb ⟨rfl, kb⟩; have sb := keep5 kb sa)
            | (go_at_call 101; refine (hDistance_any _ _ _ _ _ (by omega) (by omega) (by omega) (by omega) (by omega) (by omega) (by omega) (by omega)).mono ?_; rintro e5 wc ⟨rfl, kc⟩; have sc := keep5 kc sb))
        have Kc : Kp wt wc := sc.2.2.2.2.2
        clear sd sa sb
        go_wp2_with fail
        go_roundw
        case rel => exact ⟨k + 1, by omega, by go_num, by rw [HS.out]; exact HO1.out.keep Kc, ⟨sc.1, sc.2.1, sc.2.2.1, sc.2.2.2.1, sc.2.2.2.2.1, Kt.trans Kc⟩⟩
        case measure => simp [intOf]; omega
      · have HS : Hid (nearF W (i % W) (i / W) rad (k + 1) = nearF W (i % W) (i / W) rad k ++ [(k : Int)]) := Lib.hid (by rw [nearF, hnr]; simp)
        have hd : distH (i % W) (i / W) ((k : Int) % W) ((k : Int) / W) ≤ rad := of_decide_eq_true hnr
        have hln := Lib.hid (nearF_len W (i % W) (i / W) rad k)
        clear hnr
        go_wp2_with fail
        go_region_held3 (fun w' => w'.cell? ⟨w.heap.size, 0, none⟩ = some (.int .i64 W) ∧ w'.cell? ⟨w.heap.size, 1, none⟩ = some (.int .i64 H) ∧ w'.cell? ⟨w.heap.size, 2, none⟩ = some t ∧ w'.cell? ⟨w.heap.size, 3, none⟩ = some r ∧ w'.cell? ⟨w.heap.size, 4, none⟩ = some d ∧ Kp wt w') (first | assumption | exact sd)
          (first
            | (go_at_call_of 73 i; refine (mHex_any _ _ _ _ _ _ _ a b i0 (by omega)).mono ?_; rintro e3 wa ⟨rfl, ka⟩; have sa := keep5 ka sd)
            | (go_at_call 73; refine (mHex_any _ _ _ _ _ _ _ a b (by omega) (by omega)).mono ?_; rintro e4 wb ⟨rfl, kb⟩; have sb := keep5 kb sa)
            | (go_at_call 101; refine (hDistance_any _ _ _ _ _ (by omega) (by omega) (by omega) (by omega) (by omega) (by omega) (by omega) (by omega)).mono ?_; rintro e5 wc ⟨rfl, kc⟩; have sc := keep5 kc sb))
        have Kc : Kp wt wc := sc.2.2.2.2.2
        have O1 := Lib.hid (HO1.out.keep Kc)
        have hcs := Kc.size
        have s3 : wc.cell? ⟨w.heap.size, 0, none⟩ = some (.int .i64 W) ∧ wc.cell? ⟨w.heap.size, 1, none⟩ = some (.int .i64 H) ∧ wc.cell? ⟨w.heap.size, 2, none⟩ = some t ∧ wc.cell? ⟨w.heap.size, 3, none⟩ = some r ∧ wc.cell? ⟨w.heap.size, 4, none⟩ = some d ∧ Kp w wc :=
          ⟨sc.1, sc.2.1, sc.2.2.1, sc.2.2.2.1, sc.2.2.2.2.1, Kt.trans Kc⟩
        have n1 := Lib.hid (O1.out.not (g := w.heap.size) (by omega))
        clear sd sa sb sc st
        go_wp2_with (at_builtin; refine wpList_append_own_at _ rfl (.tmp 24) (.tmp 26) 26 rfl (w.heap.size + 1) 3 j0 (.int .i64 0) 1 8 Tryz.underlying26 hj0 hz0 hs0 hb0 rfl (by decide) _ (nearF W (i % W) (i / W) rad k).length (cellsI (nearF W (i % W) (i / W) rad k)) rfl (World.ownsRow.alloc O1.out _) ⟨wc.heap.size, 0, none⟩ 1 1 [.int .i64 k] rfl rfl (one_cell _ _ _) (by simp [Value.oneCell']) (by have := hln.out; simp only [maxLen]; omega) (by have := hln.out; omega) (by simp; omega) ?_; intro v' w3 hown2 hgrow2 hnil2 hat2; clear hnil2 hat2; have s4 := keep5 ((Kp.refl wc).alloc (.cells #[.int .i64 k] 3)) s3; have s5 := grow5 hgrow2 (fun e => n1.out e.symm) (fun k e => by have := (World.ownsRow.lt O1.out k e).1; omega) s4; have O3 := Lib.hid (OwnI.snoc (x := k) hown2); clear hown2 hgrow2 s3 s4)
        go_roundw
        case rel => exact ⟨k + 1, by omega, by go_num, by rw [HS.out]; exact O3.out, s5⟩
        case measure => simp [intOf]; omega
    · obtain rfl : k = N := by omega
      have HO := Lib.hid hoR
      clear hoR
      go_wp2_with fail
      refine (CC.out _).mono ?_
      rintro e2 wt ⟨rfl, kt⟩
      have st := keep5 kt sr
      have HO1 := Lib.hid (HO.out.keep kt)
      clear sr HO
      go_wp2_with fail
      go_ret
      exact ⟨_, rfl, HO1.out.base (by omega), st.2.2.2.2.2⟩

def nearOk (W H : Int) (lt lr ld : List Int) (i rad : Int) : Bool := (mapOk W H lt lr ld && onI W H i) && (decide (0 ≤ rad) && decide (rad ≤ 20))

theorem nearOn_any (W H : Int) (t r d : Value) (lt lr ld : List Int) (i rad : Int) (w : World) (ht : Tab w) (hL : Lists w t r d lt lr ld) :
    Calls Tryz.prog 92 #[mp W H t r d, .int .i64 i, .int .i64 rad] w (ListPostI (nearOk W H lt lr ld i rad) (nearF W (i % W) (i / W) rad (W * H).toNat) w) := by
  cases hp : mapOk W H lt lr ld && onI W H i
  · have e0 : nearOk W H lt lr ld i rad = false := by simp only [nearOk, hp, Bool.false_and]
    rw [e0]
    have s0 := new5 w (.int .i64 W) (.int .i64 H) t r d 39
    have HC : Hid (Calls Tryz.prog 122 #[mp W H t r d, .int .i64 i] (w.alloc (.cells #[.int .i64 W, .int .i64 H, t, r, d] 39)) fun e w' => e = .returned (.tuple #[hx 0 0, .bool false]) ∧ Kp (w.alloc (.cells #[.int .i64 W, .int .i64 H, t, r, d] 39)) w') := Lib.hid (by
      have := hexAt_any W H t r d lt lr ld i _ (ht.k5 s0) (hL.keep s0.2.2.2.2.2)
      rw [hp] at this
      exact this)
    clear ht hL hp e0
    go_enter Tryz.func92, Tryz.ntmps92
    go_wp2_with fail
    refine HC.out.mono ?_
    rintro e1 w1 ⟨rfl, k1⟩
    go_wp2_with fail
    go_ret2
    exact ListPostI.no ((s0.2.2.2.2.2.trans k1).alloc _)
  · have hs : mapOk W H lt lr ld = true ∧ onI W H i = true := by simpa using hp
    obtain ⟨hm, ho⟩ := hs
    by_cases hr : 0 ≤ rad ∧ rad ≤ 20
    · have e0 : nearOk W H lt lr ld i rad = true := by simp [nearOk, hm, ho, hr]
      rw [e0]
      exact nearOn_yes W H t r d lt lr ld i rad w ht hL hm ho hr.1 hr.2
    · have e0 : nearOk W H lt lr ld i rad = false := by simp [nearOk, hm, ho]; omega
      rw [e0]
      have s0 := new5 w (.int .i64 W) (.int .i64 H) t r d 39
      obtain ⟨X, hX⟩ : ∃ X, i % W = X := ⟨_, rfl⟩
      obtain ⟨Y, hY⟩ : ∃ Y, i / W = Y := ⟨_, rfl⟩
      have HC : Hid (Calls Tryz.prog 122 #[mp W H t r d, .int .i64 i] (w.alloc (.cells #[.int .i64 W, .int .i64 H, t, r, d] 39)) fun e w' => e = .returned (.tuple #[hx X Y, .bool true]) ∧ Kp (w.alloc (.cells #[.int .i64 W, .int .i64 H, t, r, d] 39)) w') := Lib.hid (by
        have := hexAt_any W H t r d lt lr ld i _ (ht.k5 s0) (hL.keep s0.2.2.2.2.2)
        rw [hp, hX, hY] at this
        exact this)
      generalize nearF W (i % W) (i / W) rad (W * H).toNat = L
      clear ht hL hp e0 hm ho hX hY
      by_cases r0 : 0 ≤ rad
      · have r1 : 20 < rad := by omega
        clear hr
        go_enter Tryz.func92, Tryz.ntmps92
        go_wp2_with fail
        refine HC.out.mono ?_
        rintro e1 w1 ⟨rfl, k1⟩
        go_wp2_with fail
        go_ret2
        exact ListPostI.no ((s0.2.2.2.2.2.trans k1).alloc _)
      · have r1 : rad < 0 := by omega
        clear hr r0
        go_enter Tryz.func92, Tryz.ntmps92
        go_wp2_with fail
        refine HC.out.mono ?_
        rintro e1 w1 ⟨rfl, k1⟩
        go_wp2_with fail
        go_ret2
        exact ListPostI.no ((s0.2.2.2.2.2.trans k1).alloc _)

end Go.Proofs.YtfohhofpfmbheaaGreatDoor

/-
  Small facts on slices of hexes that a call owns in blocks from a number on.
-/
namespace Go.Proofs.YtfohhofpfmbheaaGreatDoor
open Go.RowKit

theorem OwnH.base {w : World} {base b : Nat} {v : Value} {l : List (Int × Int)} (h : OwnH w base v l) (hb : b ≤ base) : OwnH w b v l := by
  refine ⟨h.1, ?_⟩
  rcases h.2 with h | ⟨g, cap, cur, h1, h2, h3⟩
  · exact .inl h
  · exact .inr ⟨g, cap, cur, h1, by omega, h3⟩
theorem OwnH.not {w : World} {base : Nat} {v : Value} {l : List (Int × Int)} (h : OwnH w base v l) {g : Nat} (hg : g < base) : some g ≠ v.ownBlock := fun e => by
  have := (World.ownsRow.lt h g e.symm).1
  omega
theorem OwnH.cell {w : World} {base : Nat} {v : Value} {l l' : List (Int × Int)} (h : OwnH w base v l) (e : l = l') : OwnH w base v l' := e ▸ h

theorem two_new_at {w : World} {b : Nat} (hb : b = w.heap.size) (x y : Value) (t : TypeId) : ∀ j u, [x, y][j]? = some u → (w.alloc (.cells #[x, y] t)).cell? ((⟨b, 0, none⟩ : Addr).add j) = some u := by
  subst hb
  exact two_new w x y t

end Go.Proofs.YtfohhofpfmbheaaGreatDoor

/-
  The integers nearest to a fraction, one or two: the program's and the reference's lists read as a plain function says, and nothing that was there is changed.
-/
namespace Go.Proofs.YtfohhofpfmbheaaGreatDoor
open Go.RowKit

def nrFS (f s p : Int) : List Int := if 2 * s < p then [f] else if p < 2 * s then [f + 1] else [f, f + 1]
def nrI (n p : Int) : List Int := nrFS (n / p) (n % p) p
theorem nrFS_1 {f s p : Int} (h : 2 * s < p) : nrFS f s p = [f] := by simp [nrFS, h]
theorem nrFS_2 {f s p : Int} (h : p < 2 * s) : nrFS f s p = [f + 1] := by rw [nrFS, if_neg (by omega), if_pos h]
theorem nrFS_3 {f s p : Int} (h : 2 * s = p) : nrFS f s p = [f, f + 1] := by rw [nrFS, if_neg (by omega), if_neg (by omega)]
theorem nr_neg {n p : Int} (hp : 1 ≤ p) (h : n.tmod p < 0) : n / p = n.tdiv p - 1 ∧ n % p = n.tmod p + p := by
  have h1 := Int.mul_tdiv_add_tmod n p
  have h2 : -p < n.tmod p := Int.lt_tmod_of_pos n (by omega)
  rw [Int.ediv_emod_unique (by omega)]
  refine ⟨?_, by omega, by omega⟩
  rw [Int.mul_sub]
  omega
theorem nr_zero {n p : Int} (hp : 1 ≤ p) (h : n.tmod p = 0) : n / p = n.tdiv p ∧ n % p = 0 := by
  have h1 := Int.mul_tdiv_add_tmod n p
  rw [Int.ediv_emod_unique (by omega)]
  exact ⟨by omega, by omega, by omega⟩
theorem nr_le {n p : Int} (hn : n < 0) : n.tmod p ≤ 0 := by
  have h := Int.tmod_nonneg (a := -n) p (by omega)
  rw [Int.neg_tmod] at h
  omega
theorem nr_rest (n p : Int) : n - n / p * p = n % p := by
  have := Int.ediv_mul_add_emod n p
  omega
theorem nr_bd {n p : Int} (hp : 1 ≤ p) (h1 : -20000 ≤ n) (h2 : n ≤ 20000) : -20000 ≤ n / p ∧ n / p ≤ 20000 ∧ 0 ≤ n % p ∧ n % p < p := by
  refine ⟨Int.le_ediv_of_mul_le (by omega) ?_, ?_, Int.emod_nonneg _ (by omega), Int.emod_lt_of_pos _ (by omega)⟩
  · have : 0 ≤ (p - 1) * 20000 := Int.mul_nonneg (by omega) (by omega)
    omega
  · by_cases h : 0 ≤ n
    · exact Int.le_trans (Int.ediv_le_self _ h) h2
    · have := Int.ediv_neg_of_neg_of_pos (a := n) (b := p) (by omega) (by omega)
      omega

theorem rd_one (w : World) (x : Int) (T : TypeId) : RdI (w.alloc (.cells #[.int .i64 x] T)) (.slice (some ⟨w.heap.size, 0, none⟩) 1 1) [x] := by
  refine ⟨_, _, rfl, fun _ => ⟨w.heap.size, 0, rfl, fun i y hy => ?_⟩⟩
  match i, hy with
  | 0, hy =>
    simp at hy
    subst hy
    simp [go_sem]
theorem rd_two (w : World) (x y : Int) (T : TypeId) : RdI (w.alloc (.cells #[.int .i64 x, .int .i64 y] T)) (.slice (some ⟨w.heap.size, 0, none⟩) 2 2) [x, y] := by
  refine ⟨_, _, rfl, fun _ => ⟨w.heap.size, 0, rfl, fun i z hz => ?_⟩⟩
  match i, hz with
  | 0, hz =>
    simp at hz
    subst hz
    simp [go_sem]
  | 1, hz =>
    simp at hz
    subst hz
    simp [go_sem]

def NearPost (l : List Int) (w : World) (e : Ending) (w' : World) : Prop := ∃ v, e = .returned v ∧ RdI w' v l ∧ Kp w w'

theorem nearestIntegers_any (n p : Int) (w : World) (h1 : -20000 ≤ n) (h2 : n ≤ 20000) (p1 : 1 ≤ p) (p2 : p ≤ 200) :
    Calls Tryz.prog 131 #[.int .i64 n, .int .i64 p] w (NearPost (nrI n p) w) := by
  have bd := nr_bd p1 h1 h2
  have hp0 : p ≠ 0 := by omega
  unfold nrI
  by_cases hn : 0 ≤ n
  · rcases (show 2 * (n % p) < p ∨ p < 2 * (n % p) ∨ 2 * (n % p) = p by omega) with h | h | h
    · rw [nrFS_1 (f := n / p) h]
      go_enter Tryz.func131, Tryz.ntmps131
      go_wp2
      go_quiet (fail)
      go_wp2
      go_ret
      exact ⟨_, rfl, (rd_one _ _ _).keep ((Kp.refl _).drewN _), ((Kp.refl _).alloc _).drewN _⟩
    · rw [nrFS_2 (f := n / p) h]
      go_enter Tryz.func131, Tryz.ntmps131
      go_wp2
      go_quiet (fail)
      go_wp2
      go_ret
      exact ⟨_, rfl, (rd_one _ _ _).keep ((Kp.refl _).drewN _), ((Kp.refl _).alloc _).drewN _⟩
    · rw [nrFS_3 (f := n / p) h]
      have ha : ¬ 2 * (n % p) < p := by omega
      have hb : ¬ p < 2 * (n % p) := by omega
      clear h
      go_enter Tryz.func131, Tryz.ntmps131
      go_wp2
      go_quiet (fail)
      go_wp2
      go_ret
      exact ⟨_, rfl, (rd_two _ _ _ _).keep ((Kp.refl _).drewN _), ((Kp.refl _).alloc _).drewN _⟩
  · have hl := nr_le (n := n) (p := p) (by omega)
    by_cases ht : n.tmod p < 0
    · obtain ⟨e1, e2⟩ := nr_neg p1 ht
      rw [e1, e2]
      rw [e1, e2] at bd
      clear e1 e2
      rcases (show 2 * (n.tmod p + p) < p ∨ p < 2 * (n.tmod p + p) ∨ 2 * (n.tmod p + p) = p by omega) with h | h | h
      · rw [nrFS_1 (f := n.tdiv p - 1) h]
        go_enter Tryz.func131, Tryz.ntmps131
        go_wp2
        go_quiet (fail)
        go_wp2
        go_ret
        exact ⟨_, rfl, (rd_one _ _ _).keep ((Kp.refl _).drewN _), ((Kp.refl _).alloc _).drewN _⟩
      · rw [nrFS_2 (f := n.tdiv p - 1) h]
        rw [show n.tdiv p - 1 + 1 = n.tdiv p by omega]
        go_enter Tryz.func131, Tryz.ntmps131
        go_wp2
        go_quiet (fail)
        go_wp2
        go_ret
        exact ⟨_, rfl, (rd_one _ _ _).keep ((Kp.refl _).drewN _), ((Kp.refl _).alloc _).drewN _⟩
      · rw [nrFS_3 (f := n.tdiv p - 1) h]
        rw [show n.tdiv p - 1 + 1 = n.tdiv p by omega]
        have ha : ¬ 2 * (n.tmod p + p) < p := by omega
        have hb : ¬ p < 2 * (n.tmod p + p) := by omega
        clear h
        go_enter Tryz.func131, Tryz.ntmps131
        go_wp2
        go_quiet (fail)
        go_wp2
        go_ret
        exact ⟨_, rfl, (rd_two _ _ _ _).keep ((Kp.refl _).drewN _), ((Kp.refl _).alloc _).drewN _⟩
    · have ht0 : n.tmod p = 0 := by omega
      obtain ⟨e1, e2⟩ := nr_zero p1 ht0
      rw [e1, e2, nrFS_1 (by omega)]
      rw [e1] at bd
      clear e1 e2 hl ht
      go_enter Tryz.func131, Tryz.ntmps131
      go_wp2
      go_quiet (fail)
      go_wp2
      go_ret
      exact ⟨_, rfl, (rd_one _ _ _).keep ((Kp.refl _).drewN _), ((Kp.refl _).alloc _).drewN _⟩

theorem hNear_any (n p : Int) (w : World) (h1 : -20000 ≤ n) (h2 : n ≤ 20000) (p1 : 1 ≤ p) (p2 : p ≤ 200) :
    Calls Tryz.prog 127 #[.int .i64 n, .int .i64 p] w (NearPost (nrI n p) w) := by
  have bd := nr_bd p1 h1 h2
  have hp0 : p ≠ 0 := by omega
  unfold nrI
  by_cases hn : 0 ≤ n
  · have ES := Lib.hid (nr_rest n p)
    have hpb : -40000 ≤ n / p * p ∧ n / p * p ≤ 40000 := by have := ES.out; omega
    rcases (show 2 * (n % p) < p ∨ p < 2 * (n % p) ∨ 2 * (n % p) = p by omega) with h | h | h
    · rw [nrFS_1 (f := n / p) h]
      rw [← ES.out] at h
      go_enter Tryz.func127, Tryz.ntmps127
      go_wp2
      go_ret
      exact ⟨_, rfl, rd_one _ _ _, (Kp.refl _).alloc _⟩
    · rw [nrFS_2 (f := n / p) h]
      rw [← ES.out] at h
      go_enter Tryz.func127, Tryz.ntmps127
      go_wp2
      go_ret
      exact ⟨_, rfl, rd_one _ _ _, (Kp.refl _).alloc _⟩
    · rw [nrFS_3 (f := n / p) h]
      rw [← ES.out] at h
      have ha : ¬ 2 * (n - n / p * p) < p := by omega
      have hb : ¬ p < 2 * (n - n / p * p) := by omega
      clear h
      go_enter Tryz.func127, Tryz.ntmps127
      go_wp2
      go_ret
      exact ⟨_, rfl, rd_two _ _ _ _, (Kp.refl _).alloc _⟩
  · have hl := nr_le (n := n) (p := p) (by omega)
    by_cases ht : n.tmod p < 0
    · obtain ⟨e1, e2⟩ := nr_neg p1 ht
      rw [e1, e2]
      rw [e1, e2] at bd
      have ES := Lib.hid (show n - (n.tdiv p - 1) * p = n.tmod p + p by rw [← e1, ← e2]; exact nr_rest n p)
      have hpb : -40000 ≤ (n.tdiv p - 1) * p ∧ (n.tdiv p - 1) * p ≤ 40000 := by have := ES.out; omega
      clear e1 e2
      rcases (show 2 * (n.tmod p + p) < p ∨ p < 2 * (n.tmod p + p) ∨ 2 * (n.tmod p + p) = p by omega) with h | h | h
      · rw [nrFS_1 (f := n.tdiv p - 1) h]
        rw [← ES.out] at h
        go_enter Tryz.func127, Tryz.ntmps127
        go_wp2
        go_ret
        exact ⟨_, rfl, rd_one _ _ _, (Kp.refl _).alloc _⟩
      · rw [nrFS_2 (f := n.tdiv p - 1) h]
        rw [show n.tdiv p - 1 + 1 = n.tdiv p by omega]
        rw [← ES.out] at h
        go_enter Tryz.func127, Tryz.ntmps127
        go_wp2
        go_ret
        exact ⟨_, rfl, rd_one _ _ _, (Kp.refl _).alloc _⟩
      · rw [nrFS_3 (f := n.tdiv p - 1) h]
        rw [show n.tdiv p - 1 + 1 = n.tdiv p by omega]
        rw [← ES.out] at h
        have ha : ¬ 2 * (n - (n.tdiv p - 1) * p) < p := by omega
        have hb : ¬ p < 2 * (n - (n.tdiv p - 1) * p) := by omega
        clear h
        go_enter Tryz.func127, Tryz.ntmps127
        go_wp2
        go_ret
        exact ⟨_, rfl, rd_two _ _ _ _, (Kp.refl _).alloc _⟩
    · have ht0 : n.tmod p = 0 := by omega
      obtain ⟨e1, e2⟩ := nr_zero p1 ht0
      rw [e1, e2, nrFS_1 (by omega)]
      rw [e1] at bd
      have hr := nr_rest n p
      rw [e1, e2] at hr
      have hpb : -40000 ≤ n.tdiv p * p ∧ n.tdiv p * p ≤ 40000 := by omega
      have h : 2 * (n - n.tdiv p * p) < p := by omega
      clear hr
      clear e1 e2 hl ht
      go_enter Tryz.func127, Tryz.ntmps127
      go_wp2
      go_ret
      exact ⟨_, rfl, rd_one _ _ _, (Kp.refl _).alloc _⟩

end Go.Proofs.YtfohhofpfmbheaaGreatDoor

/-
  The hexes nearest to a point of a line, one or two: the program's and the reference's lists are what a plain function says, in memory of their own. Nothing that was there is changed.
-/
namespace Go.Proofs.YtfohhofpfmbheaaGreatDoor
open Go.RowKit

def cellsL (q r p : Int) : List (Int × Int) :=
  if q.tmod p = 0 then (nrI r p).map fun y => (q.tdiv p, y)
  else if r.tmod p = 0 then (nrI q p).map fun x => (x, r.tdiv p)
  else (nrI q p).map fun x => (x, (q + r).tdiv p - x)
theorem nrI_len (n p : Int) : (nrI n p).length ≤ 2 := by
  unfold nrI nrFS
  split
  · simp
  · split <;> simp
theorem nrI_bd {n p : Int} (hp : 1 ≤ p) (h1 : -20000 ≤ n) (h2 : n ≤ 20000) : ∀ x ∈ nrI n p, -30000 ≤ x ∧ x ≤ 30000 := by
  have bd := nr_bd hp h1 h2
  unfold nrI nrFS
  intro x hx
  split at hx
  · simp at hx; omega
  · split at hx
    · simp at hx; omega
    · simp at hx; omega
theorem tdiv_bd {n p : Int} (hp : 1 ≤ p) (h1 : -40000 ≤ n) (h2 : n ≤ 40000) : -40000 ≤ n.tdiv p ∧ n.tdiv p ≤ 40000 := by
  by_cases h : 0 ≤ n
  · rw [Int.tdiv_eq_ediv_of_nonneg h]
    exact ⟨by have := Int.ediv_nonneg h (show 0 ≤ p by omega); omega, Int.le_trans (Int.ediv_le_self _ h) h2⟩
  · have e : n.tdiv p = -((-n).tdiv p) := by rw [Int.neg_tdiv]; omega
    rw [e, Int.tdiv_eq_ediv_of_nonneg (show 0 ≤ -n by omega)]
    have a := Int.ediv_nonneg (show 0 ≤ -n by omega) (show 0 ≤ p by omega)
    have b := Int.ediv_le_self p (show 0 ≤ -n by omega)
    omega
theorem map_take {f : Int → Int × Int} {l : List Int} {k : Nat} {x : Int} (h : l[k]? = some x) : (l.take (k + 1)).map f = (l.take k).map f ++ [f x] := by
  obtain ⟨hk, rfl⟩ := List.getElem?_eq_some_iff.1 h
  rw [List.take_succ_eq_append_getElem hk, List.map_append]
  rfl
def NewPost (l : List (Int × Int)) (w : World) (e : Ending) (w' : World) : Prop := ∃ v, e = .returned v ∧ OwnH w' w.heap.size v l ∧ Kp w w'

set_option maxHeartbeats 4000000 in
theorem hexesNear_any (q r p : Int) (w : World) (q1 : -20000 ≤ q) (q2 : q ≤ 20000) (r1 : -20000 ≤ r) (r2 : r ≤ 20000) (p1 : 1 ≤ p) (p2 : p ≤ 200) :
    Calls Tryz.prog 108 #[.int .i64 q, .int .i64 r, .int .i64 p] w (NewPost (cellsL q r p) w) := by
  have bq := tdiv_bd (n := q) p1 (by omega) (by omega)
  have br := tdiv_bd (n := r) p1 (by omega) (by omega)
  have bs := tdiv_bd (n := q + r) p1 (by omega) (by omega)
  have hp0 : p ≠ 0 := by omega
  obtain ⟨i0, hi0, hz0, hs0, hb0⟩ := info_parts infoHex
  unfold cellsL
  by_cases hq : q.tmod p = 0
  · rw [if_pos hq]
    have hbd := nrI_bd p1 r1 r2
    have hn2 := nrI_len r p
    have hqe : (q.tmod p == 0) = true := by simpa using hq
    clear hq
    go_enter Tryz.func108, Tryz.ntmps108
    go_wp2_with fail
    refine (nearestIntegers_any _ _ _ r1 r2 p1 p2).mono ?_
    rintro e1 w1 ⟨v1, rfl, ⟨A1, c1, rfl, hr1⟩, k1⟩
    have HA := Lib.hid hr1
    have K1 : Kp w w1 := (Kp.refl w).trans k1
    generalize hl : nrI r p = l at *
    have HB := Lib.hid hbd
    generalize hn : l.length = n at *
    have HN := Lib.hid hn
    have HLs := Lib.hid hl
    clear hr1 k1 hl hn hbd
    go_wp2_with fail
    go_loopw [7, 9, 44] (fun v _ i wx => ∃ k : Nat, k ≤ n ∧ i = .int .i64 k ∧ OwnH wx w1.heap.size v ((l.take k).map (fun y => (q.tdiv p, y))) ∧ Kp w1 wx) (fun _ _ i _ => n - (intOf i).toNat)
    case atStart => exact ⟨0, by omega, rfl, by simpa using OwnH.nil _ _, Kp.refl _⟩
    case round =>
      obtain ⟨k, hk, rfl, hoR, kr⟩ := hrel
      by_cases hlt : k < n
      · have hlt' : (k : Int) < n := by omega
        obtain ⟨g, off, rfl, hc⟩ := HA.out (by omega)
        obtain ⟨x, hx⟩ : ∃ x, l[k]? = some x := ⟨l[k]'(by have := HN.out; omega), List.getElem?_eq_getElem _⟩
        have a0 := kr.cell (hc k x hx)
        have hxb := HB.out x (List.mem_of_getElem? hx)
        have HS := Lib.hid (map_take (f := (fun y => (q.tdiv p, y))) hx)
        have O1 := Lib.hid hoR
        have hlm : Hid (((l.take k).map (fun y => (q.tdiv p, y))).length ≤ 2) := Lib.hid (by have := HN.out; rw [List.length_map, List.length_take]; omega)
        have hz := kr.size
        clear hc hx hoR
        go_wp2_with (at_builtin; refine wpList_append_own_at _ rfl (.tmp 48) (.tmp 54) 88 rfl w1.heap.size 86 i0 (hx 0 0) 2 16 Tryz.underlying88 hi0 hz0 hs0 hb0 rfl (by decide) _ ((l.take k).map (fun y => (q.tdiv p, y))).length (cellsH ((l.take k).map (fun y => (q.tdiv p, y)))) rfl (World.ownsRow.alloc O1.out _) ⟨wr.heap.size, 0, none⟩ 1 1 [.int .i64 (q.tdiv p), .int .i64 (x)] rfl rfl (two_new _ _ _ _) (by simp [Value.oneCell']) (by have := hlm.out; simp only [maxLen]; omega) (by have := hlm.out; omega) (by simp; omega) ?_; intro v' w3 hown2 hgrow2 hnil2 hat2; clear hnil2 hat2; have K3 : Kp w1 w3 := ((kr.alloc (.cells #[.int .i64 (q.tdiv p), .int .i64 (x)] 86)).grown hgrow2 (fun k e => (World.ownsRow.lt O1.out k e).1)); have O3 := Lib.hid (OwnH.snoc (x := (q.tdiv p, x)) hown2); clear hown2 hgrow2)
        go_roundw
        case rel => exact ⟨k + 1, by omega, by go_num, by rw [HS.out]; exact O3.out, K3⟩
        case measure => simp [intOf]; omega
      · obtain rfl : k = n := by omega
        go_wp2_with fail
        go_ret
        rw [List.take_of_length_le (by have := HN.out; omega)] at hoR
        rw [← HLs.out] at hoR
        exact ⟨_, rfl, hoR.base K1.size, K1.trans kr⟩
  · rw [if_neg hq]
    have hqe : (q.tmod p == 0) = false := by simpa using hq
    have hbd := nrI_bd p1 q1 q2
    have hn2 := nrI_len q p
    clear hq
    by_cases hr : r.tmod p = 0
    · rw [if_pos hr]
      have hre : (r.tmod p == 0) = true := by simpa using hr
      clear hr
      go_enter Tryz.func108, Tryz.ntmps108
      go_wp2_with fail
      refine (nearestIntegers_any _ _ _ q1 q2 p1 p2).mono ?_
      rintro e1 w1 ⟨v1, rfl, ⟨A1, c1, rfl, hr1⟩, k1⟩
      have HA := Lib.hid hr1
      have K1 : Kp w w1 := (Kp.refl w).trans k1
      generalize hl : nrI q p = l at *
      have HB := Lib.hid hbd
      generalize hn : l.length = n at *
      have HN := Lib.hid hn
      have HLs := Lib.hid hl
      clear hr1 k1 hl hn hbd
      go_wp2_with fail
      go_loopw [7, 11, 66] (fun v _ i wx => ∃ k : Nat, k ≤ n ∧ i = .int .i64 k ∧ OwnH wx w1.heap.size v ((l.take k).map (fun x => (x, r.tdiv p))) ∧ Kp w1 wx) (fun _ _ i _ => n - (intOf i).toNat)
      case atStart => exact ⟨0, by omega, rfl, by simpa using OwnH.nil _ _, Kp.refl _⟩
      case round =>
        obtain ⟨k, hk, rfl, hoR, kr⟩ := hrel
        by_cases hlt : k < n
        · have hlt' : (k : Int) < n := by omega
          obtain ⟨g, off, rfl, hc⟩ := HA.out (by omega)
          obtain ⟨x, hx⟩ : ∃ x, l[k]? = some x := ⟨l[k]'(by have := HN.out; omega), List.getElem?_eq_getElem _⟩
          have a0 := kr.cell (hc k x hx)
          have hxb := HB.out x (List.mem_of_getElem? hx)
          have HS := Lib.hid (map_take (f := (fun x => (x, r.tdiv p))) hx)
          have O1 := Lib.hid hoR
          have hlm : Hid (((l.take k).map (fun x => (x, r.tdiv p))).length ≤ 2) := Lib.hid (by have := HN.out; rw [List.length_map, List.length_take]; omega)
          have hz := kr.size
          clear hc hx hoR
          go_wp2_with (at_builtin; refine wpList_append_own_at _ rfl (.tmp 70) (.tmp 76) 88 rfl w1.heap.size 86 i0 (hx 0 0) 2 16 Tryz.underlying88 hi0 hz0 hs0 hb0 rfl (by decide) _ ((l.take k).map (fun x => (x, r.tdiv p))).length (cellsH ((l.take k).map (fun x => (x, r.tdiv p)))) rfl (World.ownsRow.alloc O1.out _) ⟨wr.heap.size, 0, none⟩ 1 1 [.int .i64 (x), .int .i64 (r.tdiv p)] rfl rfl (two_new _ _ _ _) (by simp [Value.oneCell']) (by have := hlm.out; simp only [maxLen]; omega) (by have := hlm.out; omega) (by simp; omega) ?_; intro v' w3 hown2 hgrow2 hnil2 hat2; clear hnil2 hat2; have K3 : Kp w1 w3 := ((kr.alloc (.cells #[.int .i64 (x), .int .i64 (r.tdiv p)] 86)).grown hgrow2 (fun k e => (World.ownsRow.lt O1.out k e).1)); have O3 := Lib.hid (OwnH.snoc (x := (x, r.tdiv p)) hown2); clear hown2 hgrow2)
          go_roundw
          case rel => exact ⟨k + 1, by omega, by go_num, by rw [HS.out]; exact O3.out, K3⟩
          case measure => simp [intOf]; omega
        · obtain rfl : k = n := by omega
          go_wp2_with fail
          go_ret
          rw [List.take_of_length_le (by have := HN.out; omega)] at hoR
          rw [← HLs.out] at hoR
          exact ⟨_, rfl, hoR.base K1.size, K1.trans kr⟩
    · rw [if_neg hr]
      have hre : (r.tmod p == 0) = false := by simpa using hr
      clear hr
      go_enter Tryz.func108, Tryz.ntmps108
      go_wp2_with fail
      refine (nearestIntegers_any _ _ _ q1 q2 p1 p2).mono ?_
      rintro e1 w1 ⟨v1, rfl, ⟨A1, c1, rfl, hr1⟩, k1⟩
      have HA := Lib.hid hr1
      have K1 : Kp w w1 := (Kp.refl w).trans k1
      generalize hl : nrI q p = l at *
      have HB := Lib.hid hbd
      generalize hn : l.length = n at *
      have HN := Lib.hid hn
      have HLs := Lib.hid hl
      clear hr1 k1 hl hn hbd
      go_wp2_with fail
      go_loopw [7, 13, 18] (fun v _ i wx => ∃ k : Nat, k ≤ n ∧ i = .int .i64 k ∧ OwnH wx w1.heap.size v ((l.take k).map (fun x => (x, (q + r).tdiv p - x))) ∧ Kp w1 wx) (fun _ _ i _ => n - (intOf i).toNat)
      case atStart => exact ⟨0, by omega, rfl, by simpa using OwnH.nil _ _, Kp.refl _⟩
      case round =>
        obtain ⟨k, hk, rfl, hoR, kr⟩ := hrel
        by_cases hlt : k < n
        · have hlt' : (k : Int) < n := by omega
          obtain ⟨g, off, rfl, hc⟩ := HA.out (by omega)
          obtain ⟨x, hx⟩ : ∃ x, l[k]? = some x := ⟨l[k]'(by have := HN.out; omega), List.getElem?_eq_getElem _⟩
          have a0 := kr.cell (hc k x hx)
          have hxb := HB.out x (List.mem_of_getElem? hx)
          have HS := Lib.hid (map_take (f := (fun x => (x, (q + r).tdiv p - x))) hx)
          have O1 := Lib.hid hoR
          have hlm : Hid (((l.take k).map (fun x => (x, (q + r).tdiv p - x))).length ≤ 2) := Lib.hid (by have := HN.out; rw [List.length_map, List.length_take]; omega)
          have hz := kr.size
          clear hc hx hoR
          go_wp2_with (at_builtin; refine wpList_append_own_at _ rfl (.tmp 22) (.tmp 32) 88 rfl w1.heap.size 86 i0 (hx 0 0) 2 16 Tryz.underlying88 hi0 hz0 hs0 hb0 rfl (by decide) _ ((l.take k).map (fun x => (x, (q + r).tdiv p - x))).length (cellsH ((l.take k).map (fun x => (x, (q + r).tdiv p - x)))) rfl (World.ownsRow.alloc O1.out _) ⟨wr.heap.size, 0, none⟩ 1 1 [.int .i64 (x), .int .i64 ((q + r).tdiv p - x)] rfl rfl (two_new _ _ _ _) (by simp [Value.oneCell']) (by have := hlm.out; simp only [maxLen]; omega) (by have := hlm.out; omega) (by simp; omega) ?_; intro v' w3 hown2 hgrow2 hnil2 hat2; clear hnil2 hat2; have K3 : Kp w1 w3 := ((kr.alloc (.cells #[.int .i64 (x), .int .i64 ((q + r).tdiv p - x)] 86)).grown hgrow2 (fun k e => (World.ownsRow.lt O1.out k e).1)); have O3 := Lib.hid (OwnH.snoc (x := (x, (q + r).tdiv p - x)) hown2); clear hown2 hgrow2)
          go_roundw
          case rel => exact ⟨k + 1, by omega, by go_num, by rw [HS.out]; exact O3.out, K3⟩
          case measure => simp [intOf]; omega
        · obtain rfl : k = n := by omega
          go_wp2_with fail
          go_ret
          rw [List.take_of_length_le (by have := HN.out; omega)] at hoR
          rw [← HLs.out] at hoR
          exact ⟨_, rfl, hoR.base K1.size, K1.trans kr⟩

theorem mul_bd2 {x y a b : Int} (x1 : -a ≤ x) (x2 : x ≤ a) (y1 : -b ≤ y) (y2 : y ≤ b) : -(a * b) ≤ x * y ∧ x * y ≤ a * b := by
  have h1 : 0 ≤ (a - x) * (b + y) := Int.mul_nonneg (by omega) (by omega)
  have h2 : 0 ≤ (a + x) * (b - y) := Int.mul_nonneg (by omega) (by omega)
  have h3 : 0 ≤ (a - x) * (b - y) := Int.mul_nonneg (by omega) (by omega)
  have h4 : 0 ≤ (a + x) * (b + y) := Int.mul_nonneg (by omega) (by omega)
  simp only [Int.sub_mul, Int.mul_sub, Int.add_mul, Int.mul_add] at h1 h2 h3 h4
  omega

set_option maxHeartbeats 4000000 in
theorem hCells_any (aq ar bq br i p q r : Int) (w : World) (a1 : -40 ≤ aq) (a2 : aq ≤ 40) (a3 : -40 ≤ ar) (a4 : ar ≤ 40) (b1 : -40 ≤ bq) (b2 : bq ≤ 40) (b3 : -40 ≤ br) (b4 : br ≤ 40) (i1 : 0 ≤ i) (i2 : i ≤ 160) (p1 : 1 ≤ p) (p2 : p ≤ 160)
    (eq : q = aq * p + (bq - aq) * i) (er : r = ar * p + (br - ar) * i) :
    Calls Tryz.prog 102 #[hx aq ar, hx bq br, .int .i64 i, .int .i64 p] w (NewPost (cellsL q r p) w) := by
  have m1 := mul_bd2 (x := aq) (y := p) (a := 40) (b := 160) (by omega) (by omega) (by omega) (by omega)
  have m2 := mul_bd2 (x := bq - aq) (y := i) (a := 80) (b := 160) (by omega) (by omega) (by omega) (by omega)
  have m3 := mul_bd2 (x := ar) (y := p) (a := 40) (b := 160) (by omega) (by omega) (by omega) (by omega)
  have m4 := mul_bd2 (x := br - ar) (y := i) (a := 80) (b := 160) (by omega) (by omega) (by omega) (by omega)
  have q1 : -20000 ≤ q := by omega
  have q2 : q ≤ 20000 := by omega
  have r1 : -20000 ≤ r := by omega
  have r2 : r ≤ 20000 := by omega
  have bq := tdiv_bd (n := q) p1 (by omega) (by omega)
  have br' := tdiv_bd (n := r) p1 (by omega) (by omega)
  have bs := tdiv_bd (n := q + r) p1 (by omega) (by omega)
  have hp0 : p ≠ 0 := by omega
  obtain ⟨i0, hi0, hz0, hs0, hb0⟩ := info_parts infoHex
  have HQ := Lib.hid eq
  have HR := Lib.hid er
  unfold cellsL
  by_cases hq : q.tmod p = 0
  · rw [if_pos hq]
    have hbd := nrI_bd p1 r1 r2
    have hn2 := nrI_len r p
    have hqe : (q.tmod p == 0) = true := by simpa using hq
    clear hq eq er
    go_enter Tryz.func102, Tryz.ntmps102
    go_wp2_with fail
    go_quiet (fail)
    rw [← HQ.out, ← HR.out]
    go_wp2_with fail
    refine (hNear_any _ _ _ r1 r2 p1 (by omega)).mono ?_
    rintro e1 w1 ⟨v1, rfl, ⟨A1, c1, rfl, hr1⟩, k1⟩
    have HA := Lib.hid hr1
    have K1 : Kp w w1 := ((((Kp.refl w).alloc _).alloc _).drewN _).trans k1
    generalize hl : nrI r p = l at *
    have HB := Lib.hid hbd
    generalize hn : l.length = n at *
    have HN := Lib.hid hn
    have HLs := Lib.hid hl
    clear hr1 k1 hl hn hbd
    go_wp2_with fail
    go_loopw [11, 13, 48] (fun v _ i wx => ∃ k : Nat, k ≤ n ∧ i = .int .i64 k ∧ OwnH wx w1.heap.size v ((l.take k).map (fun y => (q.tdiv p, y))) ∧ Kp w1 wx) (fun _ _ i _ => n - (intOf i).toNat)
    case atStart => exact ⟨0, by omega, rfl, by simpa using OwnH.nil _ _, Kp.refl _⟩
    case round =>
      obtain ⟨k, hk, rfl, hoR, kr⟩ := hrel
      by_cases hlt : k < n
      · have hlt' : (k : Int) < n := by omega
        obtain ⟨g, off, rfl, hc⟩ := HA.out (by omega)
        obtain ⟨x, hx⟩ : ∃ x, l[k]? = some x := ⟨l[k]'(by have := HN.out; omega), List.getElem?_eq_getElem _⟩
        have a0 := kr.cell (hc k x hx)
        have hxb := HB.out x (List.mem_of_getElem? hx)
        have HS := Lib.hid (map_take (f := (fun y => (q.tdiv p, y))) hx)
        have O1 := Lib.hid hoR
        have hlm : Hid (((l.take k).map (fun y => (q.tdiv p, y))).length ≤ 2) := Lib.hid (by have := HN.out; rw [List.length_map, List.length_take]; omega)
        have hz := kr.size
        clear hc hx hoR
        go_wp2_with (at_builtin; refine wpList_append_own_at _ rfl (.tmp 52) (.tmp 58) 88 rfl w1.heap.size 86 i0 (hx 0 0) 2 16 Tryz.underlying88 hi0 hz0 hs0 hb0 rfl (by decide) _ ((l.take k).map (fun y => (q.tdiv p, y))).length (cellsH ((l.take k).map (fun y => (q.tdiv p, y)))) rfl (World.ownsRow.alloc O1.out _) ⟨wr.heap.size, 0, none⟩ 1 1 [.int .i64 (q.tdiv p), .int .i64 (x)] rfl rfl (two_new _ _ _ _) (by simp [Value.oneCell']) (by have := hlm.out; simp only [maxLen]; omega) (by have := hlm.out; omega) (by simp; omega) ?_; intro v' w3 hown2 hgrow2 hnil2 hat2; clear hnil2 hat2; have K3 : Kp w1 w3 := ((kr.alloc (.cells #[.int .i64 (q.tdiv p), .int .i64 (x)] 86)).grown hgrow2 (fun k e => (World.ownsRow.lt O1.out k e).1)); have O3 := Lib.hid (OwnH.snoc (x := (q.tdiv p, x)) hown2); clear hown2 hgrow2)
        go_roundw
        case rel => exact ⟨k + 1, by omega, by go_num, by rw [HS.out]; exact O3.out, K3⟩
        case measure => simp [intOf]; omega
      · obtain rfl : k = n := by omega
        go_wp2_with fail
        go_ret
        rw [List.take_of_length_le (by have := HN.out; omega)] at hoR
        rw [← HLs.out] at hoR
        exact ⟨_, rfl, hoR.base K1.size, K1.trans kr⟩
  · rw [if_neg hq]
    have hqe : (q.tmod p == 0) = false := by simpa using hq
    have hbd := nrI_bd p1 q1 q2
    have hn2 := nrI_len q p
    clear hq
    by_cases hr : r.tmod p = 0
    · rw [if_pos hr]
      have hre : (r.tmod p == 0) = true := by simpa using hr
      clear hr eq er
      go_enter Tryz.func102, Tryz.ntmps102
      go_wp2_with fail
      go_quiet (fail)
      rw [← HQ.out, ← HR.out]
      go_wp2_with fail
      refine (hNear_any _ _ _ q1 q2 p1 (by omega)).mono ?_
      rintro e1 w1 ⟨v1, rfl, ⟨A1, c1, rfl, hr1⟩, k1⟩
      have HA := Lib.hid hr1
      have K1 : Kp w w1 := ((((Kp.refl w).alloc _).alloc _).drewN _).trans k1
      generalize hl : nrI q p = l at *
      have HB := Lib.hid hbd
      generalize hn : l.length = n at *
      have HN := Lib.hid hn
      have HLs := Lib.hid hl
      clear hr1 k1 hl hn hbd
      go_wp2_with fail
      go_loopw [11, 15, 66] (fun v _ i wx => ∃ k : Nat, k ≤ n ∧ i = .int .i64 k ∧ OwnH wx w1.heap.size v ((l.take k).map (fun x => (x, r.tdiv p))) ∧ Kp w1 wx) (fun _ _ i _ => n - (intOf i).toNat)
      case atStart => exact ⟨0, by omega, rfl, by simpa using OwnH.nil _ _, Kp.refl _⟩
      case round =>
        obtain ⟨k, hk, rfl, hoR, kr⟩ := hrel
        by_cases hlt : k < n
        · have hlt' : (k : Int) < n := by omega
          obtain ⟨g, off, rfl, hc⟩ := HA.out (by omega)
          obtain ⟨x, hx⟩ : ∃ x, l[k]? = some x := ⟨l[k]'(by have := HN.out; omega), List.getElem?_eq_getElem _⟩
          have a0 := kr.cell (hc k x hx)
          have hxb := HB.out x (List.mem_of_getElem? hx)
          have HS := Lib.hid (map_take (f := (fun x => (x, r.tdiv p))) hx)
          have O1 := Lib.hid hoR
          have hlm : Hid (((l.take k).map (fun x => (x, r.tdiv p))).length ≤ 2) := Lib.hid (by have := HN.out; rw [List.length_map, List.length_take]; omega)
          have hz := kr.size
          clear hc hx hoR
          go_wp2_with (at_builtin; refine wpList_append_own_at _ rfl (.tmp 74) (.tmp 80) 88 rfl w1.heap.size 86 i0 (hx 0 0) 2 16 Tryz.underlying88 hi0 hz0 hs0 hb0 rfl (by decide) _ ((l.take k).map (fun x => (x, r.tdiv p))).length (cellsH ((l.take k).map (fun x => (x, r.tdiv p)))) rfl (World.ownsRow.alloc O1.out _) ⟨wr.heap.size, 0, none⟩ 1 1 [.int .i64 (x), .int .i64 (r.tdiv p)] rfl rfl (two_new _ _ _ _) (by simp [Value.oneCell']) (by have := hlm.out; simp only [maxLen]; omega) (by have := hlm.out; omega) (by simp; omega) ?_; intro v' w3 hown2 hgrow2 hnil2 hat2; clear hnil2 hat2; have K3 : Kp w1 w3 := ((kr.alloc (.cells #[.int .i64 (x), .int .i64 (r.tdiv p)] 86)).grown hgrow2 (fun k e => (World.ownsRow.lt O1.out k e).1)); have O3 := Lib.hid (OwnH.snoc (x := (x, r.tdiv p)) hown2); clear hown2 hgrow2)
          go_roundw
          case rel => exact ⟨k + 1, by omega, by go_num, by rw [HS.out]; exact O3.out, K3⟩
          case measure => simp [intOf]; omega
        · obtain rfl : k = n := by omega
          go_wp2_with fail
          go_ret
          rw [List.take_of_length_le (by have := HN.out; omega)] at hoR
          rw [← HLs.out] at hoR
          exact ⟨_, rfl, hoR.base K1.size, K1.trans kr⟩
    · rw [if_neg hr]
      have hre : (r.tmod p == 0) = false := by simpa using hr
      clear hr eq er
      go_enter Tryz.func102, Tryz.ntmps102
      go_wp2_with fail
      go_quiet (fail)
      rw [← HQ.out, ← HR.out]
      go_wp2_with fail
      refine (hNear_any _ _ _ q1 q2 p1 (by omega)).mono ?_
      rintro e1 w1 ⟨v1, rfl, ⟨A1, c1, rfl, hr1⟩, k1⟩
      have HA := Lib.hid hr1
      have K1 : Kp w w1 := ((((Kp.refl w).alloc _).alloc _).drewN _).trans k1
      generalize hl : nrI q p = l at *
      have HB := Lib.hid hbd
      generalize hn : l.length = n at *
      have HN := Lib.hid hn
      have HLs := Lib.hid hl
      clear hr1 k1 hl hn hbd
      go_wp2_with fail
      go_loopw [11, 15, 66] (fun v _ i wx => ∃ k : Nat, k ≤ n ∧ i = .int .i64 k ∧ OwnH wx w1.heap.size v ((l.take k).map (fun x => (x, (q + r).tdiv p - x))) ∧ Kp w1 wx) (fun _ _ i _ => n - (intOf i).toNat)
      case atStart => exact ⟨0, by omega, rfl, by simpa using OwnH.nil _ _, Kp.refl _⟩
      case round =>
        obtain ⟨k, hk, rfl, hoR, kr⟩ := hrel
        by_cases hlt : k < n
        · have hlt' : (k : Int) < n := by omega
          obtain ⟨g, off, rfl, hc⟩ := HA.out (by omega)
          obtain ⟨x, hx⟩ : ∃ x, l[k]? = some x := ⟨l[k]'(by have := HN.out; omega), List.getElem?_eq_getElem _⟩
          have a0 := kr.cell (hc k x hx)
          have hxb := HB.out x (List.mem_of_getElem? hx)
          have HS := Lib.hid (map_take (f := (fun x => (x, (q + r).tdiv p - x))) hx)
          have O1 := Lib.hid hoR
          have hlm : Hid (((l.take k).map (fun x => (x, (q + r).tdiv p - x))).length ≤ 2) := Lib.hid (by have := HN.out; rw [List.length_map, List.length_take]; omega)
          have hz := kr.size
          clear hc hx hoR
          go_wp2_with (at_builtin; refine wpList_append_own_at _ rfl (.tmp 82) (.tmp 92) 88 rfl w1.heap.size 86 i0 (hx 0 0) 2 16 Tryz.underlying88 hi0 hz0 hs0 hb0 rfl (by decide) _ ((l.take k).map (fun x => (x, (q + r).tdiv p - x))).length (cellsH ((l.take k).map (fun x => (x, (q + r).tdiv p - x)))) rfl (World.ownsRow.alloc O1.out _) ⟨wr.heap.size, 0, none⟩ 1 1 [.int .i64 (x), .int .i64 ((q + r).tdiv p - x)] rfl rfl (two_new _ _ _ _) (by simp [Value.oneCell']) (by have := hlm.out; simp only [maxLen]; omega) (by have := hlm.out; omega) (by simp; omega) ?_; intro v' w3 hown2 hgrow2 hnil2 hat2; clear hnil2 hat2; have K3 : Kp w1 w3 := ((kr.alloc (.cells #[.int .i64 (x), .int .i64 ((q + r).tdiv p - x)] 86)).grown hgrow2 (fun k e => (World.ownsRow.lt O1.out k e).1)); have O3 := Lib.hid (OwnH.snoc (x := (x, (q + r).tdiv p - x)) hown2); clear hown2 hgrow2)
          go_roundw
          case rel => exact ⟨k + 1, by omega, by go_num, by rw [HS.out]; exact O3.out, K3⟩
          case measure => simp [intOf]; omega
        · obtain rfl : k = n := by omega
          go_wp2_with fail
          go_ret
          rw [List.take_of_length_le (by have := HN.out; omega)] at hoR
          rw [← HLs.out] at hoR
          exact ⟨_, rfl, hoR.base K1.size, K1.trans kr⟩

end Go.Proofs.YtfohhofpfmbheaaGreatDoor

/-
  Lists of lists of hexes: slices that a call owns, each in a block of its own; comparing two that read as the same, marking all cells and finding the marks again.
-/
namespace Go.Proofs.YtfohhofpfmbheaaGreatDoor
open Go.RowKit

/-- The slice v owns the list L of lists of hexes; vs: the inner slices. -/
structure OwnHH (w : World) (base : Nat) (v : Value) (L : List (List (Int × Int))) (vs : List Value) : Prop where
  row : w.ownsRow base 88 1 v L.length vs
  inn : ∀ (i : Nat) (x : Value) (l : List (Int × Int)), vs[i]? = some x → L[i]? = some l → OwnH w base x l
  out : ∀ (i : Nat) (x : Value) (g : Nat), vs[i]? = some x → x.ownBlock = some g → v.ownBlock ≠ some g
  two : ∀ (i j : Nat) (x y : Value) (g : Nat), i ≠ j → vs[i]? = some x → vs[j]? = some y → x.ownBlock = some g → y.ownBlock ≠ some g
theorem OwnHH.len {w : World} {base : Nat} {v : Value} {L : List (List (Int × Int))} {vs : List Value} (h : OwnHH w base v L vs) : vs.length = L.length := by
  have : vs.length = L.length * 1 := h.row.1
  omega
theorem OwnHH.keep {w w' : World} {base : Nat} {v : Value} {L : List (List (Int × Int))} {vs : List Value} (h : OwnHH w base v L vs) (k : Kp w w') : OwnHH w' base v L vs :=
  ⟨ownsRow_keep h.row k, fun i x l hx hl => (h.inn i x l hx hl).keep k, h.out, h.two⟩
theorem OwnHH.base {w : World} {base b : Nat} {v : Value} {L : List (List (Int × Int))} {vs : List Value} (h : OwnHH w base v L vs) (hb : b ≤ base) : OwnHH w b v L vs :=
  ⟨ownsRow_base h.row hb, fun i x l hx hl => (h.inn i x l hx hl).base hb, h.out, h.two⟩
theorem OwnHH.nil (w : World) (base : Nat) : OwnHH w base (.slice none 0 0) [] [] :=
  ⟨World.ownsRow_nil w base _ 1, fun i x l hx _ => by simp at hx, fun i x g hx _ => by simp at hx, fun i j x y g _ hx => by simp at hx⟩

theorem OwnHH.snoc {w0 w w' : World} {base : Nat} {v v' x : Value} {L : List (List (Int × Int))} {vs : List Value} {l : List (Int × Int)} {T : TypeId} (h : OwnHH w0 base v L vs) (k : Kp w0 w) (hx : OwnH w w0.heap.size x l) (hb : base ≤ w0.heap.size)
    (ho : w'.ownsRow base 88 1 v' (L.length + 1) (vs ++ [x])) (hg : (w.alloc (.cells #[x] T)).grownBy w' v.ownBlock) (ha : v'.ownBlock = v.ownBlock ∨ v'.ownBlock = some (w.alloc (.cells #[x] T)).heap.size) :
    OwnHH w' base v' (L ++ [l]) (vs ++ [x]) := by
  have hlen := h.len
  have ka : Kp w (w.alloc (.cells #[x] T)) := (Kp.refl w).alloc _
  have hsz : (w.alloc (.cells #[x] T)).heap.size = w.heap.size + 1 := by simp
  have kz := k.size
  have vlt : ∀ g, v.ownBlock = some g → g < w0.heap.size := fun g e => (World.ownsRow.lt h.row g e).2
  have xge : ∀ g, x.ownBlock = some g → w0.heap.size ≤ g ∧ g < w.heap.size := fun g e => World.ownsRow.lt hx g e
  have ilt : ∀ (i : Nat) (y : Value) (g : Nat), vs[i]? = some y → y.ownBlock = some g → g < w0.heap.size := fun i y g hy e => by
    have hi : i < L.length := by rw [← hlen]; exact (List.getElem?_eq_some_iff.1 hy).1
    exact (World.ownsRow.lt (h.inn i y _ hy (List.getElem?_eq_getElem hi)) g e).2
  refine ⟨by rw [List.length_append]; exact ho, fun i y m hy hm => ?_, fun i y g hy e => ?_, fun i j y z g hij hy hz e => ?_⟩
  · rcases snoc_cases hy with ⟨hi, hy⟩ | ⟨rfl, rfl⟩
    · rw [List.getElem?_append_left (by omega)] at hm
      have o := ((h.inn i y m hy hm).keep k).keep ka
      refine World.ownsRow.kept o hg ?_
      cases hv : y.ownBlock
      · exact .inl rfl
      · rename_i g
        exact .inr fun e => h.out i y g hy hv e.symm
    · rw [List.getElem?_append_right (by omega)] at hm
      simp [hlen] at hm
      subst hm
      refine World.ownsRow.kept ((hx.base hb).keep ka) hg ?_
      cases hv : y.ownBlock
      · exact .inl rfl
      · rename_i g
        refine .inr fun e => ?_
        have h1 := (xge g hv).1
        have h2 := vlt g e.symm
        omega
  · rcases snoc_cases hy with ⟨hi, hy⟩ | ⟨rfl, rfl⟩
    · have h1 := ilt i y g hy e
      rcases ha with ha | ha
      · rw [ha]
        exact h.out i y g hy e
      · rw [ha]
        intro e2
        have := Option.some.inj e2
        omega
    · have h1 := xge g e
      rcases ha with ha | ha
      · rw [ha]
        intro e2
        have := vlt g e2
        omega
      · rw [ha]
        intro e2
        have := Option.some.inj e2
        omega
  · rcases snoc_cases hy with ⟨hi, hy1⟩ | ⟨rfl, rfl⟩
    · rcases snoc_cases hz with ⟨hj, hz1⟩ | ⟨rfl, rfl⟩
      · exact h.two i j y z g hij hy1 hz1 e
      · intro e2
        have h1 := ilt i y g hy1 e
        have h2 := (xge g e2).1
        omega
    · rcases snoc_cases hz with ⟨hj, hz1⟩ | ⟨rfl, rfl⟩
      · intro e2
        have h1 := ilt j z g hz1 e2
        have h2 := (xge g e).1
        omega
      · exact absurd rfl hij

/-- The slice v reads as the list L of lists of hexes. -/
def RdHH (w : World) (v : Value) (L : List (List (Int × Int))) : Prop :=
  ∃ (A : Option Addr) (c : Nat) (vs : List Value), v = .slice A L.length c ∧ vs.length = L.length ∧ (0 < L.length → ∃ g off, A = some ⟨g, off, none⟩ ∧ ∀ (i : Nat) (x : Value), vs[i]? = some x → w.cell? ⟨g, off + i, none⟩ = some x) ∧ ∀ (i : Nat) (x : Value) (l : List (Int × Int)), vs[i]? = some x → L[i]? = some l → RdH w x l
theorem RdHH.keep {w w' : World} {v : Value} {L : List (List (Int × Int))} (h : RdHH w v L) (hk : Kp w w') : RdHH w' v L := by
  obtain ⟨A, c, vs, rfl, hl, h0, h1⟩ := h
  refine ⟨A, c, vs, rfl, hl, fun hp => ?_, fun i x l hx hm => (h1 i x l hx hm).keep hk⟩
  obtain ⟨g, off, rfl, hc⟩ := h0 hp
  exact ⟨g, off, rfl, fun i x hx => hk.cell (hc i x hx)⟩
theorem OwnHH.rd {w : World} {base : Nat} {v : Value} {L : List (List (Int × Int))} {vs : List Value} (h : OwnHH w base v L vs) : RdHH w v L := by
  have hlen := h.len
  have hr := h.row
  rcases h.row.2 with ⟨hv, hn⟩ | ⟨g, cap, cur, hv, _⟩
  · exact ⟨none, 0, vs, by rw [hn]; exact hv, hlen, fun h0 => by omega, fun i x l hx hl => (h.inn i x l hx hl).rd⟩
  · refine ⟨_, _, vs, hv, hlen, fun _ => ⟨g, 0, rfl, fun i x hx => ?_⟩, fun i x l hx hl => (h.inn i x l hx hl).rd⟩
    rw [hv] at hr
    have hi : i < vs.length := (List.getElem?_eq_some_iff.1 hx).1
    rw [Nat.zero_add]
    exact (World.ownsRow.cellAt hr i (by omega)).trans hx

/-- The first mark of the inner list number i. -/
def kk (L : List (List (Int × Int))) (i : Nat) : Int := 1 + 2 * (((L.take i).map List.length).sum : Nat)
theorem kk_zero (L : List (List (Int × Int))) : kk L 0 = 1 := by simp [kk]
theorem kk_succ {L : List (List (Int × Int))} {i : Nat} {l : List (Int × Int)} (h : L[i]? = some l) : kk L (i + 1) = kk L i + 2 * l.length := by
  obtain ⟨hi, rfl⟩ := List.getElem?_eq_some_iff.1 h
  unfold kk
  rw [List.take_succ_eq_append_getElem hi, List.map_append, List.sum_append]
  simp
  omega
theorem kk_bd {L : List (List (Int × Int))} (hi : ∀ l ∈ L, l.length ≤ 100) : ∀ i, i ≤ L.length → 1 ≤ kk L i ∧ kk L i ≤ 1 + 200 * i
  | 0, _ => by simp [kk]
  | i + 1, h => by
    have ih := kk_bd hi i (by omega)
    have hl : L[i]? = some (L[i]'(by omega)) := List.getElem?_eq_getElem _
    have := hi _ (List.mem_of_getElem? hl)
    rw [kk_succ hl]
    omega

/-- All cells of the inner lists bear their marks. -/
structure MarkHH (w : World) (base : Nat) (v : Value) (L : List (List (Int × Int))) (vs : List Value) : Prop where
  row : w.ownsRow base 88 1 v L.length vs
  inn : ∀ (i : Nat) (x : Value) (l : List (Int × Int)), vs[i]? = some x → L[i]? = some l → w.ownsRow base 86 2 x l.length (marks (kk L i) (l.length * 2))
theorem MarkHH.keep {w w' : World} {base : Nat} {v : Value} {L : List (List (Int × Int))} {vs : List Value} (h : MarkHH w base v L vs) (k : Kp w w') : MarkHH w' base v L vs :=
  ⟨ownsRow_keep h.row k, fun i x l hx hl => ownsRow_keep (h.inn i x l hx hl) k⟩

end Go.Proofs.YtfohhofpfmbheaaGreatDoor

/-
  Lines of hexes: the program's list of lists is what a plain function says, in memory of its own, or none. Nothing that was there is changed.
-/
namespace Go.Proofs.YtfohhofpfmbheaaGreatDoor
open Go.RowKit

def lineF (aq ar bq br p : Int) : Nat → List (List (Int × Int))
  | 0 => []
  | k + 1 => lineF aq ar bq br p k ++ [cellsL (aq * p + (bq - aq) * k) (ar * p + (br - ar) * k) p]
theorem lineF_len (aq ar bq br p : Int) : ∀ k, (lineF aq ar bq br p k).length = k
  | 0 => rfl
  | k + 1 => by rw [lineF, List.length_append, lineF_len aq ar bq br p k]; rfl
theorem cellsL_len (q r p : Int) : (cellsL q r p).length ≤ 2 := by
  unfold cellsL
  split
  · simpa using nrI_len r p
  · split <;> simpa using nrI_len q p
theorem lineF_in (aq ar bq br p : Int) : ∀ k, ∀ l ∈ lineF aq ar bq br p k, l.length ≤ 2
  | 0, l, h => by cases h
  | k + 1, l, h => by
    rw [lineF, List.mem_append] at h
    rcases h with h | h
    · exact lineF_in aq ar bq br p k l h
    · simp at h
      rw [h]
      exact cellsL_len _ _ _
def onep (n : Int) : Int := if n < 1 then 1 else n
def lineL (aq ar bq br : Int) : List (List (Int × Int)) := lineF aq ar bq br (onep (distH aq ar bq br)) ((distH aq ar bq br).toNat + 1)
theorem dist_bd {aq ar bq br : Int} (ha : okH aq ar = true) (hb : okH bq br = true) : 0 ≤ distH aq ar bq br ∧ distH aq ar bq br ≤ 160 := by
  have A1 := okH_true ha
  have B1 := okH_true hb
  have b1 := absI_bd (bq - aq)
  have b2 := absI_bd (br - ar)
  have b3 := absI_bd (bq - aq + (br - ar))
  unfold distH distI
  omega

/-- A new list of lists of hexes and true, or none and false. -/
def LinePost (ok : Bool) (L : List (List (Int × Int))) (w : World) (e : Ending) (w' : World) : Prop :=
  ∃ v vs, e = .returned (.tuple #[v, .bool ok]) ∧ OwnHH w' w.heap.size v (if ok = true then L else []) vs ∧ Kp w w'
theorem LinePost.no {L : List (List (Int × Int))} {w w' : World} (hk : Kp w w') : LinePost false L w (.returned (.tuple #[.slice none 0 0, .bool false])) w' := ⟨_, _, rfl, OwnHH.nil _ _, hk⟩

theorem infoHexS : (Tryz.prog.info? 88).map (fun i => (i.zero, i.size, i.bytes)) = some (some (.slice none 0 0), 1, 24) := by kernel_rfl
theorem mkHexSS (n : Nat) (hn : n ≤ 1000) (w : World) :
    (Instr.makeSlice 83 (.int .i64 0) (.int .i64 ((n : Int) + 1))).run Tryz.prog w = .ok (.slice (some ⟨w.heap.size, 0, none⟩) 0 (n + 1)) (w.alloc (.cells (madeCells #[.slice none 0 0] (n + 1)) 88)) := by
  obtain ⟨i, hi, hz, hs, hb⟩ := info_parts infoHexS
  have hr := run_make (P := Tryz.prog) w 83 88 i (.slice none 0 0) Tryz.underlying83 hi hz .i64 .i64 0 ((n : Int) + 1) (Int.le_refl _) (by omega) (by rw [hb]; omega) (by omega)
  rw [hs, Nat.mul_one, show ((n : Int) + 1).toNat = n + 1 by omega] at hr
  exact hr
theorem OwnHH.made (w : World) (base n : Nat) (hb : base ≤ w.heap.size) (hn : n ≤ 1000) : OwnHH (w.alloc (.cells (madeCells #[.slice none 0 0] (n + 1)) 88)) base (.slice (some ⟨w.heap.size, 0, none⟩) 0 (n + 1)) [] [] :=
  ⟨World.ownsRow_made w _ (n + 1) hb (by simp only [maxLen]; omega) (by rw [size_madeCells, Nat.mul_one]), fun i x l hx _ => by simp at hx, fun i x g hx _ => by simp at hx, fun i j x y g _ hx => by simp at hx⟩

theorem cell_one (w : World) (x : Value) (t : TypeId) : ∀ j u, [x][j]? = some u → (w.alloc (.cells #[x] t)).cell? ((⟨w.heap.size, 0, none⟩ : Addr).add j) = some u := by
  intro j u hj
  match j, hj with
  | 0, hj => simp at hj; subst hj; simp [Addr.add]
theorem OwnH.oneCell {w : World} {base : Nat} {v : Value} {l : List (Int × Int)} (h : OwnH w base v l) : v.oneCell' = true := by
  rcases h.2 with ⟨rfl, _⟩ | ⟨g, cap, cur, rfl, _⟩ <;> rfl
theorem OwnH.sl {w : World} {base : Nat} {v : Value} {l : List (Int × Int)} (h : OwnH w base v l) : ∃ A n c, v = .slice A n c := by
  obtain ⟨A, c, rfl, _⟩ := h.rd
  exact ⟨A, _, c, rfl⟩

theorem lineOf_no (aq ar bq br : Int) (w : World) (h : ok2 aq ar bq br = false) :
    Calls Tryz.prog 79 #[hx aq ar, hx bq br] w (LinePost false (lineL aq ar bq br) w) := by
  have HC : Hid (∀ w, Calls Tryz.prog 106 #[hx aq ar, hx bq br] w fun e w' => e = .returned (.tuple #[.int .i64 0, .bool false]) ∧ Kp w w') := Lib.hid fun w => by
    have := distanceOf_any aq ar bq br w
    rw [h, show distOf aq ar bq br = 0 by simp [distOf, h]] at this
    exact this
  clear h
  go_enter Tryz.func79, Tryz.ntmps79
  go_wp2_with fail
  refine (HC.out _).mono ?_
  rintro e1 w1 ⟨rfl, k1⟩
  go_wp2_with fail
  go_ret2
  exact LinePost.no ((((Kp.refl _).alloc _).alloc _).trans k1)

set_option maxRecDepth 100000 in
set_option maxHeartbeats 8000000 in
theorem lineOf_yes (aq ar bq br p : Int) (N : Nat) (w : World) (ha : okH aq ar = true) (hb : okH bq br = true) (hN : (N : Int) = distH aq ar bq br) (hp : onep N = p) :
    Calls Tryz.prog 79 #[hx aq ar, hx bq br] w (LinePost true (lineF aq ar bq br p (N + 1)) w) := by
  have A1 := okH_true ha
  have B1 := okH_true hb
  have D1 := dist_bd ha hb
  have hN2 : N ≤ 160 := by omega
  have HC : Hid (∀ w, Calls Tryz.prog 106 #[hx aq ar, hx bq br] w fun e w' => e = .returned (.tuple #[.int .i64 N, .bool true]) ∧ Kp w w') := Lib.hid fun w => by
    have := distanceOf_any aq ar bq br w
    obtain ⟨e1, e2⟩ := distOf_yes ha hb
    rw [e1, e2, ← hN] at this
    exact this
  obtain ⟨j0, hj0, hz0, hs0, hb0⟩ := info_parts infoHexS
  have hmk := fun w => mkHexSS N (by omega) w
  have p1 : 1 ≤ p := by rw [← hp]; unfold onep; split <;> omega
  have p2 : p ≤ 160 := by rw [← hp]; unfold onep; split <;> omega
  have hmx : (N = 0 ∧ p = 1) ∨ ((1 : Int) ≤ N ∧ p = N) := by
    rw [← hp]; unfold onep; split <;> omega
  have HQ : Hid (∀ k : Nat, k ≤ N → cellsL (aq * p + (k : Int) * (bq - aq)) (ar * p + (k : Int) * (br - ar)) p = cellsL (aq * p + (bq - aq) * k) (ar * p + (br - ar) * k) p) := Lib.hid fun k _ => by
    rw [Int.mul_comm (k : Int), Int.mul_comm (k : Int)]
  have HB : Hid (∀ k : Nat, k ≤ N → (-12800 ≤ (k : Int) * (bq - aq) ∧ (k : Int) * (bq - aq) ≤ 12800) ∧ (-12800 ≤ (k : Int) * (br - ar) ∧ (k : Int) * (br - ar) ≤ 12800)) := Lib.hid fun k hk => by
    have m2 := mul_bd2 (x := (k : Int)) (y := bq - aq) (a := 160) (b := 80) (by omega) (by omega) (by omega) (by omega)
    have m4 := mul_bd2 (x := (k : Int)) (y := br - ar) (a := 160) (b := 80) (by omega) (by omega) (by omega) (by omega)
    omega
  have m1 := mul_bd2 (x := aq) (y := p) (a := 40) (b := 160) (by omega) (by omega) (by omega) (by omega)
  have m3 := mul_bd2 (x := ar) (y := p) (a := 40) (b := 160) (by omega) (by omega) (by omega) (by omega)
  have HP := Lib.hid hp
  clear ha hb hN hp D1
  go_enter Tryz.func79, Tryz.ntmps79
  go_wp2_with fail
  refine (HC.out _).mono ?_
  rintro e1 w1 ⟨rfl, k1⟩
  have c1 : w1.cell? ⟨w.heap.size, 0, none⟩ = some (.int .i64 aq) ∧ w1.cell? ⟨w.heap.size, 1, none⟩ = some (.int .i64 ar) ∧ w1.cell? ⟨w.heap.size + 1, 0, none⟩ = some (.int .i64 bq) ∧ w1.cell? ⟨w.heap.size + 1, 1, none⟩ = some (.int .i64 br) :=
    ⟨k1.cell (by simp [go_sem]), k1.cell (by simp [go_sem]), k1.cell (by simp [go_sem]), k1.cell (by simp [go_sem])⟩
  have K1 : Kp w w1 := (((Kp.refl _).alloc _).alloc _).trans k1
  clear k1 HC
  rcases hmx with ⟨rfl, rfl⟩ | ⟨n1, rfl⟩
  · have hmk0 : ∀ w, (Instr.makeSlice 83 (.int .i64 0) (.int .i64 1)).run Tryz.prog w = .ok (.slice (some ⟨w.heap.size, 0, none⟩) 0 1) (w.alloc (.cells (madeCells #[.slice none 0 0] 1) 88)) := fun w => mkHexSS 0 (by omega) w
    clear hmk
    go_wp2_with fail
    refine (offsetTo_any _ _ _ _ _ (by omega) (by omega) (by omega) (by omega) (by omega) (by omega) (by omega) (by omega)).mono ?_
    rintro e2 w2 ⟨rfl, k2⟩
    have c2 := k2.four c1
    have kb := (Kp.refl w2).alloc (.cells #[.int .i64 (bq - aq), .int .i64 (br - ar)] 123)
    have c3 := kb.four c2
    have d3 : (w2.alloc (.cells #[.int .i64 (bq - aq), .int .i64 (br - ar)] 123)).cell? ⟨w2.heap.size, 0, none⟩ = some (.int .i64 (bq - aq)) ∧ (w2.alloc (.cells #[.int .i64 (bq - aq), .int .i64 (br - ar)] 123)).cell? ⟨w2.heap.size, 1, none⟩ = some (.int .i64 (br - ar)) := ⟨by simp [go_sem], by simp [go_sem]⟩
    have K2 : Kp w (w2.alloc (.cells #[.int .i64 (bq - aq), .int .i64 (br - ar)] 123)) := (K1.trans k2).trans kb
    have hz2 : w.heap.size < w2.heap.size := Nat.lt_of_lt_of_le (cell_lt c1.1) k2.size
    have hz2b := Lib.hid (show (w2.alloc (.cells #[.int .i64 (bq - aq), .int .i64 (br - ar)] 123)).heap.size = w2.heap.size + 1 by simp)
    clear c1 c2 K1 k2 kb
    go_wp2_with fail
    generalize w2.heap.size = b9 at *
    generalize (w2.alloc (.cells #[.int .i64 (bq - aq), .int .i64 (br - ar)] 123)) = W3 at *
    have HM : Hid (OwnHH (W3.alloc (.cells (madeCells #[.slice none 0 0] 1) 88)) (b9 + 1) (.slice (some ⟨b9 + 1, 0, none⟩) 0 1) [] []) := Lib.hid (by
      have := OwnHH.made W3 (b9 + 1) 0 (by have := hz2b.out; omega) (by omega)
      rw [hz2b.out] at this
      exact this)
    have km := (Kp.refl W3).alloc (.cells (madeCells #[.slice none 0 0] 1) 88)
    have sM : ((W3.alloc (.cells (madeCells #[.slice none 0 0] 1) 88)).cell? ⟨w.heap.size, 0, none⟩ = some (.int .i64 aq) ∧ (W3.alloc (.cells (madeCells #[.slice none 0 0] 1) 88)).cell? ⟨w.heap.size, 1, none⟩ = some (.int .i64 ar) ∧ (W3.alloc (.cells (madeCells #[.slice none 0 0] 1) 88)).cell? ⟨b9, 0, none⟩ = some (.int .i64 (bq - aq)) ∧ (W3.alloc (.cells (madeCells #[.slice none 0 0] 1) 88)).cell? ⟨b9, 1, none⟩ = some (.int .i64 (br - ar))) := ⟨km.cell c3.1, km.cell c3.2.1, km.cell d3.1, km.cell d3.2⟩
    have KM : Kp w (W3.alloc (.cells (madeCells #[.slice none 0 0] 1) 88)) := K2.trans km
    clear c3 d3 K2 km
    generalize (W3.alloc (.cells (madeCells #[.slice none 0 0] 1) 88)) = WM at *
    go_loopw [10, 11, 30] (fun v _ s30 wx => ∃ k : Nat, k ≤ 1 ∧ s30 = .int .i64 k ∧ (∃ vs, OwnHH wx (b9 + 1) v (lineF aq ar bq br 1 k) vs) ∧ (wx.cell? ⟨w.heap.size, 0, none⟩ = some (.int .i64 aq) ∧ wx.cell? ⟨w.heap.size, 1, none⟩ = some (.int .i64 ar) ∧ wx.cell? ⟨b9, 0, none⟩ = some (.int .i64 (bq - aq)) ∧ wx.cell? ⟨b9, 1, none⟩ = some (.int .i64 (br - ar))) ∧ Kp w wx) (fun _ _ s30 _ => 1 - (intOf s30).toNat)
    case atStart => exact ⟨0, by omega, rfl, ⟨_, HM.out⟩, sM, KM⟩
    case round =>
      clear sM KM HM
      obtain ⟨k, hk, rfl, ⟨vs, hoR⟩, sr, kR⟩ := hrel
      by_cases hlt : k < 1
      · obtain rfl : k = 0 := by omega
        have HO := Lib.hid hoR
        have blt : b9 < wr.heap.size := cell_lt sr.2.2.1
        have n1' := Lib.hid (fun e => (Nat.lt_irrefl _ (Nat.lt_of_lt_of_le (show w.heap.size < b9 + 1 by omega) (World.ownsRow.lt hoR.row w.heap.size e).1)))
        have n2' := Lib.hid (fun e => (Nat.lt_irrefl _ (Nat.lt_of_lt_of_le (show b9 < b9 + 1 by omega) (World.ownsRow.lt hoR.row b9 e).1)))
        have hln : Hid ((lineF aq ar bq br 1 0).length = 0) := Lib.hid (lineF_len _ _ _ _ _ _)
        clear hoR
        go_wp2_with fail
        refine (hexesNear_any _ _ _ _ (by omega) (by omega) (by omega) (by omega) (by omega) (by omega)).mono ?_
        rintro e3 w3 ⟨x0, rfl, o3, k3⟩
        obtain ⟨Ax, nx, cx, rfl⟩ := o3.sl
        have O3 := Lib.hid o3
        have s3 := k3.four sr
        have K3 : Kp w w3 := kR.trans k3
        have hz4 := k3.size
        have k3' := Lib.hid k3
        have oRow := Lib.hid (ownsRow_keep HO.out.row k3)
        clear o3 k3 sr kR
        go_wp2_with (at_builtin; refine wpList_append_own_at _ rfl (.tmp 33) (.tmp 54) 83 rfl (b9 + 1) 88 j0 (.slice none 0 0) 1 24 Tryz.underlying83 hj0 hz0 hs0 hb0 rfl (by decide) _ (lineF aq ar bq br 1 0).length vs rfl (World.ownsRow.alloc oRow.out _) ⟨w3.heap.size, 0, none⟩ 1 1 [.slice Ax nx cx] rfl rfl (cell_one _ _ _) (by simp [Value.oneCell']) (by have := hln.out; simp only [maxLen]; omega) (by have := hln.out; omega) (by simp; omega) ?_; intro v' w4 hown2 hgrow2 hnil2 hat2; clear hnil2; have s4 := ((Kp.refl w3).alloc (.cells #[.slice Ax nx cx] 88)).four s3; have q0 := hgrow2.cell s4.1 (fun e => n1'.out e.symm); have q1 := hgrow2.cell s4.2.1 (fun e => n1'.out e.symm); have q2 := hgrow2.cell s4.2.2.1 (fun e => n2'.out e.symm); have q3 := hgrow2.cell s4.2.2.2 (fun e => n2'.out e.symm); have K4 : Kp w w4 := (K3.alloc (.cells #[.slice Ax nx cx] 88)).grown hgrow2 (fun k e => by have := (World.ownsRow.lt oRow.out k e).1; omega); have O4 := Lib.hid (HO.out.snoc k3'.out O3.out (by omega) hown2 hgrow2 hat2); clear hown2 hgrow2 hat2 s3 s4)
        go_roundw
        case rel => exact ⟨1, by omega, by go_num, ⟨_, by rw [lineF, show aq * 1 + (bq - aq) * ((0 : Nat) : Int) = aq by simp, show ar * 1 + (br - ar) * ((0 : Nat) : Int) = ar by simp]; exact O4.out⟩, ⟨q0, q1, q2, q3⟩, K4⟩
        case measure => simp [intOf]
      · obtain rfl : k = 1 := by omega
        go_wp2_with fail
        go_ret2
        exact ⟨_, _, rfl, hoR.base (by omega), kR⟩
  · go_wp2_with fail
    refine (offsetTo_any _ _ _ _ _ (by omega) (by omega) (by omega) (by omega) (by omega) (by omega) (by omega) (by omega)).mono ?_
    rintro e2 w2 ⟨rfl, k2⟩
    have c2 := k2.four c1
    have kb := (Kp.refl w2).alloc (.cells #[.int .i64 (bq - aq), .int .i64 (br - ar)] 123)
    have c3 := kb.four c2
    have d3 : (w2.alloc (.cells #[.int .i64 (bq - aq), .int .i64 (br - ar)] 123)).cell? ⟨w2.heap.size, 0, none⟩ = some (.int .i64 (bq - aq)) ∧ (w2.alloc (.cells #[.int .i64 (bq - aq), .int .i64 (br - ar)] 123)).cell? ⟨w2.heap.size, 1, none⟩ = some (.int .i64 (br - ar)) := ⟨by simp [go_sem], by simp [go_sem]⟩
    have K2 : Kp w (w2.alloc (.cells #[.int .i64 (bq - aq), .int .i64 (br - ar)] 123)) := (K1.trans k2).trans kb
    have hz2 : w.heap.size < w2.heap.size := Nat.lt_of_lt_of_le (cell_lt c1.1) k2.size
    have hz2b := Lib.hid (show (w2.alloc (.cells #[.int .i64 (bq - aq), .int .i64 (br - ar)] 123)).heap.size = w2.heap.size + 1 by simp)
    clear c1 c2 K1 k2 kb
    go_wp2_with fail
    generalize w2.heap.size = b9 at *
    generalize (w2.alloc (.cells #[.int .i64 (bq - aq), .int .i64 (br - ar)] 123)) = W3 at *
    have HM : Hid (OwnHH (W3.alloc (.cells (madeCells #[.slice none 0 0] (N + 1)) 88)) (b9 + 1) (.slice (some ⟨b9 + 1, 0, none⟩) 0 (N + 1)) [] []) := Lib.hid (by
      have := OwnHH.made W3 (b9 + 1) N (by have := hz2b.out; omega) (by omega)
      rw [hz2b.out] at this
      exact this)
    have km := (Kp.refl W3).alloc (.cells (madeCells #[.slice none 0 0] (N + 1)) 88)
    have sM : ((W3.alloc (.cells (madeCells #[.slice none 0 0] (N + 1)) 88)).cell? ⟨w.heap.size, 0, none⟩ = some (.int .i64 aq) ∧ (W3.alloc (.cells (madeCells #[.slice none 0 0] (N + 1)) 88)).cell? ⟨w.heap.size, 1, none⟩ = some (.int .i64 ar) ∧ (W3.alloc (.cells (madeCells #[.slice none 0 0] (N + 1)) 88)).cell? ⟨b9, 0, none⟩ = some (.int .i64 (bq - aq)) ∧ (W3.alloc (.cells (madeCells #[.slice none 0 0] (N + 1)) 88)).cell? ⟨b9, 1, none⟩ = some (.int .i64 (br - ar))) := ⟨km.cell c3.1, km.cell c3.2.1, km.cell d3.1, km.cell d3.2⟩
    have KM : Kp w (W3.alloc (.cells (madeCells #[.slice none 0 0] (N + 1)) 88)) := K2.trans km
    clear c3 d3 K2 km
    generalize (W3.alloc (.cells (madeCells #[.slice none 0 0] (N + 1)) 88)) = WM at *
    go_loopw [10, 11, 30] (fun v _ s30 wx => ∃ k : Nat, k ≤ N + 1 ∧ s30 = .int .i64 k ∧ (∃ vs, OwnHH wx (b9 + 1) v (lineF aq ar bq br (N : Int) k) vs) ∧ (wx.cell? ⟨w.heap.size, 0, none⟩ = some (.int .i64 aq) ∧ wx.cell? ⟨w.heap.size, 1, none⟩ = some (.int .i64 ar) ∧ wx.cell? ⟨b9, 0, none⟩ = some (.int .i64 (bq - aq)) ∧ wx.cell? ⟨b9, 1, none⟩ = some (.int .i64 (br - ar))) ∧ Kp w wx) (fun _ _ s30 _ => N + 1 - (intOf s30).toNat)
    case atStart => exact ⟨0, by omega, rfl, ⟨_, HM.out⟩, sM, KM⟩
    case round =>
      clear sM KM HM
      obtain ⟨k, hk, rfl, ⟨vs, hoR⟩, sr, kR⟩ := hrel
      by_cases hlt : k < N + 1
      · have hlt' : (k : Int) < (N : Int) + 1 := by omega
        have kb := HB.out k (by omega)
        have HO := Lib.hid hoR
        have blt : b9 < wr.heap.size := cell_lt sr.2.2.1
        have n1' := Lib.hid (fun e => (Nat.lt_irrefl _ (Nat.lt_of_lt_of_le (show w.heap.size < b9 + 1 by omega) (World.ownsRow.lt hoR.row w.heap.size e).1)))
        have n2' := Lib.hid (fun e => (Nat.lt_irrefl _ (Nat.lt_of_lt_of_le (show b9 < b9 + 1 by omega) (World.ownsRow.lt hoR.row b9 e).1)))
        have hln : Hid ((lineF aq ar bq br (N : Int) k).length = k) := Lib.hid (lineF_len _ _ _ _ _ _)
        clear hoR
        go_wp2_with fail
        refine (hexesNear_any _ _ _ _ (by omega) (by omega) (by omega) (by omega) (by omega) (by omega)).mono ?_
        rintro e3 w3 ⟨x0, rfl, o3, k3⟩
        obtain ⟨Ax, nx, cx, rfl⟩ := o3.sl
        have O3 := Lib.hid o3
        have s3 := k3.four sr
        have K3 : Kp w w3 := kR.trans k3
        have hz4 := k3.size
        have k3' := Lib.hid k3
        have oRow := Lib.hid (ownsRow_keep HO.out.row k3)
        clear o3 k3 sr kR
        go_wp2_with (at_builtin; refine wpList_append_own_at _ rfl (.tmp 33) (.tmp 54) 83 rfl (b9 + 1) 88 j0 (.slice none 0 0) 1 24 Tryz.underlying83 hj0 hz0 hs0 hb0 rfl (by decide) _ (lineF aq ar bq br (N : Int) k).length vs rfl (World.ownsRow.alloc oRow.out _) ⟨w3.heap.size, 0, none⟩ 1 1 [.slice Ax nx cx] rfl rfl (cell_one _ _ _) (by simp [Value.oneCell']) (by have := hln.out; simp only [maxLen]; omega) (by have := hln.out; omega) (by simp; omega) ?_; intro v' w4 hown2 hgrow2 hnil2 hat2; clear hnil2; have s4 := ((Kp.refl w3).alloc (.cells #[.slice Ax nx cx] 88)).four s3; have q0 := hgrow2.cell s4.1 (fun e => n1'.out e.symm); have q1 := hgrow2.cell s4.2.1 (fun e => n1'.out e.symm); have q2 := hgrow2.cell s4.2.2.1 (fun e => n2'.out e.symm); have q3 := hgrow2.cell s4.2.2.2 (fun e => n2'.out e.symm); have K4 : Kp w w4 := (K3.alloc (.cells #[.slice Ax nx cx] 88)).grown hgrow2 (fun k e => by have := (World.ownsRow.lt oRow.out k e).1; omega); have O4 := Lib.hid (HO.out.snoc k3'.out O3.out (by omega) hown2 hgrow2 hat2); clear hown2 hgrow2 hat2 s3 s4)
        go_roundw
        case rel => exact ⟨k + 1, by omega, by go_num, ⟨_, by rw [lineF, ← HQ.out k (by omega)]; exact O4.out⟩, ⟨q0, q1, q2, q3⟩, K4⟩
        case measure => simp [intOf]; omega
      · obtain rfl : k = N + 1 := by omega
        go_wp2_with fail
        go_ret2
        exact ⟨_, _, rfl, hoR.base (by omega), kR⟩

end Go.Proofs.YtfohhofpfmbheaaGreatDoor
