/-
  Marking the cells of slices of integers that the call owns with k, k+1, .., and finding the marks again; the same for the three lists of a map.
-/
import Derived.Test.YtcdfbcmfpeceeaaDoorMapL
import Derived.Test.YtcdfbcmfpeceeaaDoorMarkN
namespace Go.Proofs.YtcdfbcmfpeceeaaDoor
open Go.RowKit

/-- Only the three slices' own blocks, and new ones, have been written. -/
def Marked (w w' : World) (t r d : Value) : Prop := ∃ w0 wa wb, Kp w w0 ∧ w0.grownBy wa t.ownBlock ∧ wa.grownBy wb r.ownBlock ∧ wb.grownBy w' d.ownBlock
theorem Marked.kp {w w' W0 : World} {t r d : Value} {base : Nat} {lt lr ld : List Int} (h : Marked w w' t r d) (o : Own3 w base t r d lt lr ld) (k : Kp W0 w) (hb : W0.heap.size ≤ base) : Kp W0 w' := by
  obtain ⟨w0, wa, wb, k0, g1, g2, g3⟩ := h
  exact (((k.trans k0).grown g1 (fun k e => Nat.le_trans hb (World.ownsRow.lt o.ot k e).1)).grown g2 (fun k e => Nat.le_trans hb (World.ownsRow.lt o.or k e).1)).grown g3 (fun k e => Nat.le_trans hb (World.ownsRow.lt o.od k e).1)
theorem Marked.own {w w' : World} {t r d v : Value} {base : Nat} {e : TypeId} {sz n : Nat} {xs : List Value} (h : Marked w w' t r d) (o : w.ownsRow base e sz v n xs)
    (h1 : ∀ g, v.ownBlock = some g → t.ownBlock ≠ some g ∧ r.ownBlock ≠ some g ∧ d.ownBlock ≠ some g) : w'.ownsRow base e sz v n xs := by
  obtain ⟨w0, wa, wb, k0, g1, g2, g3⟩ := h
  have ne : ∀ (x : Value), (∀ g, v.ownBlock = some g → x.ownBlock ≠ some g) → v.ownBlock = none ∨ v.ownBlock ≠ x.ownBlock := fun x hx => by
    cases hv : v.ownBlock
    · exact .inl rfl
    · rename_i g
      exact .inr fun e => hx g hv e.symm
  exact (((ownsRow_keep o k0).kept g1 (ne t fun g hg => (h1 g hg).1)).kept g2 (ne r fun g hg => (h1 g hg).2.1)).kept g3 (ne d fun g hg => (h1 g hg).2.2)

/-- The three lists of a map, marked one behind the other. -/
structure Marks3 (w : World) (base : Nat) (t r d : Value) (nt nr nd : Nat) : Prop where
  ot : w.ownsRow base 3 1 t nt (marks 1 nt)
  or : w.ownsRow base 3 1 r nr (marks (1 + nt) nr)
  od : w.ownsRow base 3 1 d nd (marks (1 + nt + nr) nd)
theorem Marks3.keep {w w' : World} {base : Nat} {t r d : Value} {nt nr nd : Nat} (h : Marks3 w base t r d nt nr nd) (k : Kp w w') : Marks3 w' base t r d nt nr nd :=
  ⟨ownsRow_keep h.ot k, ownsRow_keep h.or k, ownsRow_keep h.od k⟩

theorem markMap_any (W H : Int) (t r d : Value) (lt lr ld : List Int) (nt nr nd base : Nat) (w : World) (ho : Own3 w base t r d lt lr ld) (h1 : lt.length = nt) (h2 : lr.length = nr) (h3 : ld.length = nd) (b1 : nt ≤ 1048576) (b2 : nr ≤ 1048576) (b3 : nd ≤ 1048576) :
    Calls Tryd.prog 33 #[mp W H t r d, .int .i64 1] w fun e w' => e = .returned (.int .i64 (1 + nt + nr + nd)) ∧ Marked w w' t r d ∧ Marks3 w' base t r d nt nr nd := by
  have o1 : w.ownsRow base 3 1 t nt (cellsI lt) := by rw [← h1]; exact ho.ot
  have o2 : w.ownsRow base 3 1 r nr (cellsI lr) := by rw [← h2]; exact ho.or
  have o3 : w.ownsRow base 3 1 d nd (cellsI ld) := by rw [← h3]; exact ho.od
  have n1 := Lib.hid (ho.ot.block' w.heap.size (Nat.le_refl _))
  have n2 := Lib.hid (ho.or.block' w.heap.size (Nat.le_refl _))
  have AP := Lib.hid (And.intro ho.tr (And.intro ho.td ho.rd))
  have s0 := new5 w (.int .i64 W) (.int .i64 H) t r d 44
  have k0 := s0.2.2.2.2.2
  have O1 := Lib.hid (ownsRow_keep o1 k0)
  have O2 := Lib.hid (ownsRow_keep o2 k0)
  have O3 := Lib.hid (ownsRow_keep o3 k0)
  clear ho h1 h2 h3 o1 o2 o3
  go_enter Tryd.func33, Tryd.ntmps33
  go_wp2_with fail
  refine (markIntS_own _ _ base _ _ _ (by omega) (by omega) b1 O1.out).mono ?_
  rintro e1 wa ⟨rfl, oa, ga⟩
  have c3 := ga.cell s0.2.2.2.1 (fun e => n1.out e.symm)
  have c4 := ga.cell s0.2.2.2.2.1 (fun e => n1.out e.symm)
  have P2 := Lib.hid (World.ownsRow.kept O2.out ga (apart_ne AP.out.1))
  have P3 := Lib.hid (World.ownsRow.kept O3.out ga (apart_ne AP.out.2.1))
  have P1 := Lib.hid oa
  have GA := Lib.hid ga
  clear oa ga s0 O1 O2 O3
  go_wp2_with fail
  refine (markIntS_own _ _ base _ _ _ (by omega) (by omega) b2 P2.out).mono ?_
  rintro e2 wb ⟨rfl, ob, gb⟩
  have d4 := gb.cell c4 (fun e => n2.out e.symm)
  have Q1 := Lib.hid (World.ownsRow.kept P1.out gb (apart_ne (apart_sym AP.out.1)))
  have Q3 := Lib.hid (World.ownsRow.kept P3.out gb (apart_ne AP.out.2.2))
  have Q2 := Lib.hid ob
  have GB := Lib.hid gb
  clear ob gb c3 c4 P1 P2 P3
  go_wp2_with fail
  refine (markIntS_own _ _ base _ _ _ (by omega) (by omega) b3 Q3.out).mono ?_
  rintro e3 wc ⟨rfl, oc, gc⟩
  have R1 := Lib.hid (World.ownsRow.kept Q1.out gc (apart_ne (apart_sym AP.out.2.1)))
  have R2 := Lib.hid (World.ownsRow.kept Q2.out gc (apart_ne (apart_sym AP.out.2.2)))
  have R3 := Lib.hid oc
  have GC := Lib.hid gc
  clear oc gc d4 Q1 Q2 Q3
  go_wp2_with fail
  go_ret
  exact ⟨rfl, ⟨_, _, _, k0, GA.out, GB.out, GC.out⟩, ⟨R1.out, R2.out, R3.out⟩⟩

theorem heldMap_any (W H : Int) (t r d : Value) (nt nr nd base : Nat) (w : World) (ho : Marks3 w base t r d nt nr nd) (b1 : nt ≤ 1048576) (b2 : nr ≤ 1048576) (b3 : nd ≤ 1048576) :
    Calls Tryd.prog 34 #[mp W H t r d, .int .i64 1] w fun e w' => e = .returned (.int .i64 (1 + nt + nr + nd)) ∧ Kp w w' := by
  have s0 := new5 w (.int .i64 W) (.int .i64 H) t r d 44
  have O := Lib.hid (ho.keep s0.2.2.2.2.2)
  clear ho
  go_enter Tryd.func34, Tryd.ntmps34
  go_wp2_with fail
  refine (heldIntS_own _ _ base _ _ (by omega) (by omega) b1 O.out.ot).mono ?_
  rintro e1 wa ⟨rfl, ka⟩
  have sa := keep5 ka s0
  have OA := Lib.hid (O.out.keep ka)
  clear s0 O ka
  go_wp2_with fail
  refine (heldIntS_own _ _ base _ _ (by omega) (by omega) b2 OA.out.or).mono ?_
  rintro e2 wb ⟨rfl, kb⟩
  have sb := keep5 kb sa
  have OB := Lib.hid (OA.out.keep kb)
  clear sa OA kb
  go_wp2_with fail
  refine (heldIntS_own _ _ base _ _ (by omega) (by omega) b3 OB.out.od).mono ?_
  rintro e3 wc ⟨rfl, kc⟩
  have sc := keep5 kc sb
  clear sb OB kc
  go_wp2_with fail
  go_ret
  exact ⟨rfl, sc.2.2.2.2.2⟩

end Go.Proofs.YtcdfbcmfpeceeaaDoor
