/-
  Marking the cells of slices of integers that the call owns with k, k+1, .., and finding the marks again; the same for the three lists of a map.
-/
import Derived.Test.YtkkcnofplddbmaaDoorMapL
namespace Go.Proofs.YtkkcnofplddbmaaDoor
open Go.RowKit

theorem marks1_step (k0 : Int) (xs : List Value) (t n : Nat) (hl : xs.length = n * 1) (ht : t < n) :
    (marks k0 t ++ xs.drop t).set t (.int .i64 (k0 + t)) = marks k0 (t + 1) ++ xs.drop (t + 1) := by
  apply List.ext_getElem?
  intro j
  rw [List.getElem?_set]
  simp only [List.length_append, marks_length, List.length_drop]
  by_cases h1 : t = j
  · subst h1
    rw [if_pos rfl, if_pos (by omega), List.getElem?_append_left (by rw [marks_length]; omega), marks_at _ _ _ (by omega)]
  · rw [if_neg h1]
    by_cases h3 : j < t
    · rw [List.getElem?_append_left (by rw [marks_length]; omega), List.getElem?_append_left (by rw [marks_length]; omega), marks_at _ _ _ h3, marks_at _ _ _ (by omega)]
    · rw [List.getElem?_append_right (by rw [marks_length]; omega), List.getElem?_append_right (by rw [marks_length]; omega), marks_length, marks_length, List.getElem?_drop, List.getElem?_drop]
      congr 1
      omega

theorem markIntS_own (v : Value) (n base : Nat) (k0 : Int) (xs : List Value) (w : World) (h0 : 0 ≤ k0) (h1 : k0 ≤ 1000000000000000) (hn : n ≤ 1048576) (hown : w.ownsRow base 3 1 v n xs) :
    Calls Tryd.prog 33 #[v, .int .i64 k0] w fun e w' => e = .returned (.int .i64 (k0 + n)) ∧ w'.ownsRow base 3 1 v n (marks k0 n) ∧ w.grownBy w' v.ownBlock := by
  rcases hown.2 with ⟨rfl, rfl⟩ | ⟨g, cap, cur, rfl, _⟩
  · go_enter Tryd.func33, Tryd.ntmps33
    go_wp2_with fail
    go_loop [1, 5] (fun k i => k = .int .i64 k0 ∧ i = .int .i64 0) (fun _ _ => 0)
    case atStart => exact ⟨rfl, rfl⟩
    case round =>
      obtain ⟨rfl, rfl⟩ := hrel
      go_wp2_with fail
      go_ret
      exact ⟨ret_int (by simp), World.ownsRow_nil _ _ _ _, World.grownBy.refl w _⟩
  · have hl : xs.length = n * 1 := hown.1
    have HL := Lib.hid hl
    clear hl
    go_enter Tryd.func33, Tryd.ntmps33
    go_wp2_with fail
    go_loopw [1, 5] (fun kk i wr => ∃ t : Nat, t ≤ n ∧ i = .int .i64 t ∧ kk = .int .i64 (k0 + t) ∧ wr.ownsRow base 3 1 (.slice (some ⟨g, 0, none⟩) n cap) n (marks k0 t ++ xs.drop t) ∧ w.grownBy wr (some g)) (fun _ i _ => n - (intOf i).toNat)
    case atStart => exact ⟨0, by omega, rfl, by simp, by simpa [marks] using hown, World.grownBy.refl w _⟩
    case round =>
      obtain ⟨t, ht, rfl, rfl, ho, hg⟩ := hrel
      by_cases hlt : t < n
      · have hlt' : (t : Int) < n := by omega
        have hlen : (marks k0 t ++ xs.drop t).length = n * 1 := ho.1
        obtain ⟨u0, hu0⟩ : ∃ u, wr.cell? ⟨g, t, none⟩ = some u := ⟨_, (ho.cellAt t (by omega)).trans (List.getElem?_eq_getElem (by omega))⟩
        have f0 := ho.frozenAt t
        clear hlen
        go_wp2_with fail
        go_roundw
        case rel =>
          obtain ⟨o1, g1⟩ := ho.stored t (.int .i64 (k0 + t))
          refine ⟨t + 1, by omega, by go_num, by go_num, ?_, hg.trans g1⟩
          rw [← marks1_step k0 xs t n HL.out hlt]
          exact o1
        case measure => simp [intOf]; omega
      · obtain rfl : t = n := by omega
        go_wp2_with fail
        go_ret
        refine ⟨rfl, ?_, hg⟩
        have e : xs.drop t = [] := List.drop_of_length_le (by rw [HL.out]; omega)
        rw [e, List.append_nil] at ho
        exact ho

theorem heldIntS_own (v : Value) (n base : Nat) (k0 : Int) (w : World) (h0 : 0 ≤ k0) (h1 : k0 ≤ 1000000000000000) (hn : n ≤ 1048576) (hown : w.ownsRow base 3 1 v n (marks k0 n)) :
    Calls Tryd.prog 34 #[v, .int .i64 k0] w fun e w' => e = .returned (.int .i64 (k0 + n)) ∧ Kp w w' := by
  rcases hown.2 with ⟨rfl, rfl⟩ | ⟨g, cap, cur, rfl, _⟩
  · go_enter Tryd.func34, Tryd.ntmps34
    go_wp2_with fail
    go_loop [1, 5] (fun k i => k = .int .i64 k0 ∧ i = .int .i64 0) (fun _ _ => 0)
    case atStart => exact ⟨rfl, rfl⟩
    case round =>
      obtain ⟨rfl, rfl⟩ := hrel
      go_wp2_with fail
      go_ret
      exact ⟨ret_int (by simp), Kp.refl _⟩
  · go_enter Tryd.func34, Tryd.ntmps34
    go_wp2_with fail
    go_loopw [1, 5] (fun kk i wr => ∃ t : Nat, t ≤ n ∧ i = .int .i64 t ∧ kk = .int .i64 (k0 + t) ∧ Kp w wr) (fun _ i _ => n - (intOf i).toNat)
    case atStart => exact ⟨0, by omega, rfl, by simp, Kp.refl _⟩
    case round =>
      obtain ⟨t, ht, rfl, rfl, kr⟩ := hrel
      by_cases hlt : t < n
      · have hlt' : (t : Int) < n := by omega
        have c0 : wr.cell? ⟨g, t, none⟩ = some (.int .i64 (k0 + t)) := kr.cell ((hown.cellAt t (by omega)).trans (marks_at _ _ _ (by omega)))
        have hne : ((k0 + (t : Int)) != (k0 + (t : Int))) = false := by simp
        go_wp2_with fail
        go_roundw
        case rel => exact ⟨t + 1, by omega, by go_num, by go_num, kr⟩
        case measure => simp [intOf]; omega
      · obtain rfl : t = n := by omega
        go_wp2_with fail
        go_ret
        exact ⟨rfl, kr⟩

theorem OwnI.block' {w : World} {base : Nat} {v : Value} {l : List Int} (h : OwnI w base v l) (g : Nat) (hg : w.heap.size ≤ g) : v.ownBlock ≠ some g := fun e => by
  have := (World.ownsRow.lt h g e).2
  omega

/-- Only the three slices' own blocks, and new ones, have been written. -/
def Marked (w w' : World) (t r d : Value) : Prop := ∃ w0 wa wb, Kp w w0 ∧ w0.grownBy wa t.ownBlock ∧ wa.grownBy wb r.ownBlock ∧ wb.grownBy w' d.ownBlock
theorem Marked.kp {w w' W0 : World} {t r d : Value} {base : Nat} {lt lr ld : List Int} (h : Marked w w' t r d) (o : Own3 w base t r d lt lr ld) (k : Kp W0 w) (hb : W0.heap.size ≤ base) : Kp W0 w' := by
  obtain ⟨w0, wa, wb, k0, g1, g2, g3⟩ := h
  exact (((k.trans k0).grown g1 (fun k e => Nat.le_trans hb (World.ownsRow.lt o.ot k e).1)).grown g2 (fun k e => Nat.le_trans hb (World.ownsRow.lt o.or k e).1)).grown g3 (fun k e => Nat.le_trans hb (World.ownsRow.lt o.od k e).1)
theorem Marked.own {w w' : World} {t r d v : Value} {base : Nat} {e : TypeId} {sz n : Nat} {xs : List Value} (h : Marked w w' t r d) (o : w.ownsRow base e sz v n xs)
    (h1 : ∀ g, v.ownBlock = some g → t.ownBlock ≠ some g ∧ r.ownBlock ≠ some g ∧ d.ownBlock ≠ some g) : w'.ownsRow base e sz v n xs := by
  obtain ⟨w0, wa, wb, k0, g1, g2, g3⟩ := h
  have ne : ∀ (x : Value), (∀ g, v.ownBlock = some g → x.ownBlock ≠ some g) → v.ownBlock = none ∨ v.ownBlock ≠ x.ownBlock := fun x hx => by
    cases hv : v.ownBlock
    · exact .inl rfl
    · rename_i g
      exact .inr fun e => hx g hv e.symm
  exact (((ownsRow_keep o k0).kept g1 (ne t fun g hg => (h1 g hg).1)).kept g2 (ne r fun g hg => (h1 g hg).2.1)).kept g3 (ne d fun g hg => (h1 g hg).2.2)

theorem apart_ne {x y : Value} (h : ∀ g, x.ownBlock = some g → y.ownBlock ≠ some g) : y.ownBlock = none ∨ y.ownBlock ≠ x.ownBlock := by
  cases hy : y.ownBlock
  · exact .inl rfl
  · rename_i g
    exact .inr fun e => h g e.symm hy
theorem apart_sym {x y : Value} (h : ∀ g, x.ownBlock = some g → y.ownBlock ≠ some g) : ∀ g, y.ownBlock = some g → x.ownBlock ≠ some g := fun g hy hx => h g hx hy

/-- The three lists of a map, marked one behind the other. -/
structure Marks3 (w : World) (base : Nat) (t r d : Value) (nt nr nd : Nat) : Prop where
  ot : w.ownsRow base 3 1 t nt (marks 1 nt)
  or : w.ownsRow base 3 1 r nr (marks (1 + nt) nr)
  od : w.ownsRow base 3 1 d nd (marks (1 + nt + nr) nd)
theorem Marks3.keep {w w' : World} {base : Nat} {t r d : Value} {nt nr nd : Nat} (h : Marks3 w base t r d nt nr nd) (k : Kp w w') : Marks3 w' base t r d nt nr nd :=
  ⟨ownsRow_keep h.ot k, ownsRow_keep h.or k, ownsRow_keep h.od k⟩

theorem markMap_any (W H : Int) (t r d : Value) (lt lr ld : List Int) (nt nr nd base : Nat) (w : World) (ho : Own3 w base t r d lt lr ld) (h1 : lt.length = nt) (h2 : lr.length = nr) (h3 : ld.length = nd) (b1 : nt ≤ 1048576) (b2 : nr ≤ 1048576) (b3 : nd ≤ 1048576) :
    Calls Tryd.prog 45 #[mp W H t r d, .int .i64 1] w fun e w' => e = .returned (.int .i64 (1 + nt + nr + nd)) ∧ Marked w w' t r d ∧ Marks3 w' base t r d nt nr nd := by
  have o1 : w.ownsRow base 3 1 t nt (cellsI lt) := by rw [← h1]; exact ho.ot
  have o2 : w.ownsRow base 3 1 r nr (cellsI lr) := by rw [← h2]; exact ho.or
  have o3 : w.ownsRow base 3 1 d nd (cellsI ld) := by rw [← h3]; exact ho.od
  have n1 := Lib.hid (ho.ot.block' w.heap.size (Nat.le_refl _))
  have n2 := Lib.hid (ho.or.block' w.heap.size (Nat.le_refl _))
  have AP := Lib.hid (And.intro ho.tr (And.intro ho.td ho.rd))
  have s0 := new5 w (.int .i64 W) (.int .i64 H) t r d 42
  have k0 := s0.2.2.2.2.2
  have O1 := Lib.hid (ownsRow_keep o1 k0)
  have O2 := Lib.hid (ownsRow_keep o2 k0)
  have O3 := Lib.hid (ownsRow_keep o3 k0)
  clear ho h1 h2 h3 o1 o2 o3
  go_enter Tryd.func45, Tryd.ntmps45
  go_wp2_with fail
  refine (markIntS_own _ _ base _ _ _ (by omega) (by omega) b1 O1.out).mono ?_
  rintro e1 wa ⟨rfl, oa, ga⟩
  have c3 := ga.cell s0.2.2.2.1 (fun e => n1.out e.symm)
  have c4 := ga.cell s0.2.2.2.2.1 (fun e => n1.out e.symm)
  have P2 := Lib.hid (World.ownsRow.kept O2.out ga (apart_ne AP.out.1))
  have P3 := Lib.hid (World.ownsRow.kept O3.out ga (apart_ne AP.out.2.1))
  have P1 := Lib.hid oa
  have GA := Lib.hid ga
  clear oa ga s0 O1 O2 O3
  go_wp2_with fail
  refine (markIntS_own _ _ base _ _ _ (by omega) (by omega) b2 P2.out).mono ?_
  rintro e2 wb ⟨rfl, ob, gb⟩
  have d4 := gb.cell c4 (fun e => n2.out e.symm)
  have Q1 := Lib.hid (World.ownsRow.kept P1.out gb (apart_ne (apart_sym AP.out.1)))
  have Q3 := Lib.hid (World.ownsRow.kept P3.out gb (apart_ne AP.out.2.2))
  have Q2 := Lib.hid ob
  have GB := Lib.hid gb
  clear ob gb c3 c4 P1 P2 P3
  go_wp2_with fail
  refine (markIntS_own _ _ base _ _ _ (by omega) (by omega) b3 Q3.out).mono ?_
  rintro e3 wc ⟨rfl, oc, gc⟩
  have R1 := Lib.hid (World.ownsRow.kept Q1.out gc (apart_ne (apart_sym AP.out.2.1)))
  have R2 := Lib.hid (World.ownsRow.kept Q2.out gc (apart_ne (apart_sym AP.out.2.2)))
  have R3 := Lib.hid oc
  have GC := Lib.hid gc
  clear oc gc d4 Q1 Q2 Q3
  go_wp2_with fail
  go_ret
  exact ⟨rfl, ⟨_, _, _, k0, GA.out, GB.out, GC.out⟩, ⟨R1.out, R2.out, R3.out⟩⟩

theorem heldMap_any (W H : Int) (t r d : Value) (nt nr nd base : Nat) (w : World) (ho : Marks3 w base t r d nt nr nd) (b1 : nt ≤ 1048576) (b2 : nr ≤ 1048576) (b3 : nd ≤ 1048576) :
    Calls Tryd.prog 48 #[mp W H t r d, .int .i64 1] w fun e w' => e = .returned (.int .i64 (1 + nt + nr + nd)) ∧ Kp w w' := by
  have s0 := new5 w (.int .i64 W) (.int .i64 H) t r d 42
  have O := Lib.hid (ho.keep s0.2.2.2.2.2)
  clear ho
  go_enter Tryd.func48, Tryd.ntmps48
  go_wp2_with fail
  refine (heldIntS_own _ _ base _ _ (by omega) (by omega) b1 O.out.ot).mono ?_
  rintro e1 wa ⟨rfl, ka⟩
  have sa := keep5 ka s0
  have OA := Lib.hid (O.out.keep ka)
  clear s0 O ka
  go_wp2_with fail
  refine (heldIntS_own _ _ base _ _ (by omega) (by omega) b2 OA.out.or).mono ?_
  rintro e2 wb ⟨rfl, kb⟩
  have sb := keep5 kb sa
  have OB := Lib.hid (OA.out.keep kb)
  clear sa OA kb
  go_wp2_with fail
  refine (heldIntS_own _ _ base _ _ (by omega) (by omega) b3 OB.out.od).mono ?_
  rintro e3 wc ⟨rfl, kc⟩
  have sc := keep5 kc sb
  clear sb OB kc
  go_wp2_with fail
  go_ret
  exact ⟨rfl, sc.2.2.2.2.2⟩

end Go.Proofs.YtkkcnofplddbmaaDoor
