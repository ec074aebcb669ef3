/-
  A unit's allowed steps; StepAllowed of the program. Nothing that was there is changed. The named variables hold what the program's text lays.
-/
import Derived.Test.YtiojmbbdcccokaaGreatDoorZnA
import Derived.Test.YtiojmbbdcccokaaGreatDoorZnB
import Derived.Test.YtiojmbbdcccokaaGreatDoorQa
import Derived.Test.YtiojmbbdcccokaaGreatDoorQa
namespace Go.Proofs.YtiojmbbdcccokaaGreatDoor
open Go.RowKit


set_option maxRecDepth 100000 in
set_option maxHeartbeats 4000000 in
theorem isStepAllowed_s (At Ak : Option Addr) (nt nk ct ck : Nat) (l : List Ter) (m : List Knd) (a b c d e W H : Int) (Ax Ar Ay : Option Addr) (nx cx nr cr ny cy : Nat) (lt lr ld : List Int) (T Z : Int) (Au : Option Addr) (nu cu : Nat) (us : List Uni) (k : Nat) (sx ax tx : Int) (kx i dd : Int) (w : World) (ht : Tab w) (hB : BrdAt w At Ak nt nk l m (.slice Ax nx cx) (.slice Ar nr cr) (.slice Ay ny cy) lt lr ld) (hS : StaAt w (.slice Au nu cu) us) (hok : brdOk ⟨l, m, a, b, c, d, e⟩ W H lt lr ld = true) (hst : staOk ⟨l, m, a, b, c, d, e⟩ W H lt T Z us = true) (hz : us[k]? = some ⟨sx, kx, ax, tx⟩) (hi : onI W H i = true) (hd : dirB dd = true) :
    Calls Tryz.prog 52 #[bv (.slice At nt ct) (.slice Ak nk ck) a b c d e W H (.slice Ax nx cx) (.slice Ar nr cr) (.slice Ay ny cy), sv T Z (.slice Au nu cu), .int .i64 (k : Int), .int .i64 i, .int .i64 dd] w fun e' w' => e' = .returned (.bool (alwB l m lt lr ld W H us ⟨sx, kx, ax, tx⟩ i dd)) ∧ Kp w w' := by
  obtain ⟨g1, g2, g3, g4⟩ := mapOk_side (brdOk_map hok)
  have hlen := mapOk_len (brdOk_map hok)
  have hu : uniOk l m W H lt ⟨sx, kx, ax, tx⟩ = true := (staOk_parts hst).2.2.1 _ (List.mem_of_getElem? hz)
  have hss := (uniOk_side hu).1
  simp only at hss
  obtain ⟨j, kd, e1, hj, _, _⟩ := uniOk_kind hu
  simp only at e1
  subst e1
  have hnb : nbB W H i dd = nbM W H i dd := by unfold nbB; rw [hi, hd]; rfl
  have KA : Kp w ((w.alloc (.cells #[.slice At nt ct, .slice Ak nk ck, .int .i64 a, .int .i64 b, .int .i64 c, .int .i64 d, .int .i64 e, .int .i64 W, .int .i64 H, .slice Ax nx cx, .slice Ar nr cr, .slice Ay ny cy] 44)).alloc (.cells #[.int .i64 T, .int .i64 Z, .slice Au nu cu] 48)) := ((Kp.refl w).alloc _).alloc _
  have s0 : cb12 ((w.alloc (.cells #[.slice At nt ct, .slice Ak nk ck, .int .i64 a, .int .i64 b, .int .i64 c, .int .i64 d, .int .i64 e, .int .i64 W, .int .i64 H, .slice Ax nx cx, .slice Ar nr cr, .slice Ay ny cy] 44)).alloc (.cells #[.int .i64 T, .int .i64 Z, .slice Au nu cu] 48)) (w.heap.size) (.slice At nt ct) (.slice Ak nk ck) (.int .i64 a) (.int .i64 b) (.int .i64 c) (.int .i64 d) (.int .i64 e) (.int .i64 W) (.int .i64 H) (.slice Ax nx cx) (.slice Ar nr cr) (.slice Ay ny cy) (cb3 ((w.alloc (.cells #[.slice At nt ct, .slice Ak nk ck, .int .i64 a, .int .i64 b, .int .i64 c, .int .i64 d, .int .i64 e, .int .i64 W, .int .i64 H, .slice Ax nx cx, .slice Ar nr cr, .slice Ay ny cy] 44)).alloc (.cells #[.int .i64 T, .int .i64 Z, .slice Au nu cu] 48)) (w.heap.size + 1) (.int .i64 T) (.int .i64 Z) (.slice Au nu cu) (Kp w ((w.alloc (.cells #[.slice At nt ct, .slice Ak nk ck, .int .i64 a, .int .i64 b, .int .i64 c, .int .i64 d, .int .i64 e, .int .i64 W, .int .i64 H, .slice Ax nx cx, .slice Ar nr cr, .slice Ay ny cy] 44)).alloc (.cells #[.int .i64 T, .int .i64 Z, .slice Au nu cu] 48)))) := ⟨by simp [go_sem], by simp [go_sem], by simp [go_sem], by simp [go_sem], by simp [go_sem], by simp [go_sem], by simp [go_sem], by simp [go_sem], by simp [go_sem], by simp [go_sem], by simp [go_sem], by simp [go_sem], by simp [go_sem], by simp [go_sem], by simp [go_sem], KA⟩
  have HT := Lib.hid ht
  have HB := Lib.hid hB
  have HS := Lib.hid hS
  have CS := Lib.hid (fun (w : World) ht hB hS => stepOf_any At Ak nt nk ct ck l m a b c d e W H (.slice Ax nx cx) (.slice Ar nr cr) (.slice Ay ny cy) lt lr ld T Z (.slice Au nu cu) us k sx (j : Int) ax tx i dd _ _ w ht hB hS hz hss g1 g2 g3 g4 rfl rfl)
  rw [hnb] at CS
  cases hm : nbM W H i dd
  · have HE : Hid (alwB l m lt lr ld W H us ⟨sx, (j : Int), ax, tx⟩ i dd = false) := Lib.hid (by unfold alwB; rw [hm]; rfl)
    rw [HE.out]
    rw [hm] at CS
    generalize vI false (nbI W i dd) = to0 at CS
    clear HE ht hB hS hok hst hz hi hd hu hss hj hnb hlen hm
    go_enter Tryz.func52, Tryz.ntmps52
    go_wp2_with fail
    refine (CS.out _ (HT.out.keep KA) (HB.out.keep KA) (HS.out.keep KA)).mono ?_
    rintro e1 w1 ⟨rfl, k1⟩
    have K1 := KA.trans k1
    have I22 : Hid ((Tryz.prog.info? 97).map (·.size) = some 22) := Lib.hid (by kernel_rfl)
    have t1 : World.there (w1.alloc (.cells #[.int .i64 0, .int .i64 0, .int .i64 0, .int .i64 0, .slice none 0 0, .slice none 0 0, .int .i64 0, .int .i64 0, .int .i64 0, .int .i64 0, .int .i64 0, .int .i64 0, .int .i64 0, .slice none 0 0, .slice none 0 0, .slice none 0 0, .int .i64 0, .int .i64 0, .slice none 0 0, .int .i64 0, .int .i64 0, .int .i64 0] 97)) w1.heap.size 0 (#[.int .i64 sx, .int .i64 (j : Int), .int .i64 ax, .int .i64 tx, .slice At nt ct, .slice Ak nk ck, .int .i64 a, .int .i64 b, .int .i64 c, .int .i64 d, .int .i64 e, .int .i64 W, .int .i64 H, .slice Ax nx cx, .slice Ar nr cr, .slice Ay ny cy, .int .i64 T, .int .i64 Z, .slice Au nu cu, .int .i64 (1 - sx), .int .i64 i, .int .i64 to0] : Array Value).size := there_new w1 [.int .i64 0, .int .i64 0, .int .i64 0, .int .i64 0, .slice none 0 0, .slice none 0 0, .int .i64 0, .int .i64 0, .int .i64 0, .int .i64 0, .int .i64 0, .int .i64 0, .int .i64 0, .slice none 0 0, .slice none 0 0, .slice none 0 0, .int .i64 0, .int .i64 0, .slice none 0 0, .int .i64 0, .int .i64 0, .int .i64 0] 97
    obtain ⟨W9, hW9⟩ : ∃ W9, W9 = (w1.alloc (.cells #[.int .i64 0, .int .i64 0, .int .i64 0, .int .i64 0, .slice none 0 0, .slice none 0 0, .int .i64 0, .int .i64 0, .int .i64 0, .int .i64 0, .int .i64 0, .int .i64 0, .int .i64 0, .slice none 0 0, .slice none 0 0, .slice none 0 0, .int .i64 0, .int .i64 0, .slice none 0 0, .int .i64 0, .int .i64 0, .int .i64 0] 97)).setCells w1.heap.size 0 (#[.int .i64 sx, .int .i64 (j : Int), .int .i64 ax, .int .i64 tx, .slice At nt ct, .slice Ak nk ck, .int .i64 a, .int .i64 b, .int .i64 c, .int .i64 d, .int .i64 e, .int .i64 W, .int .i64 H, .slice Ax nx cx, .slice Ar nr cr, .slice Ay ny cy, .int .i64 T, .int .i64 Z, .slice Au nu cu, .int .i64 (1 - sx), .int .i64 i, .int .i64 to0] : Array Value).toList := ⟨_, rfl⟩
    have r9 : World.rangeAt W9 w1.heap.size 0 [.int .i64 sx, .int .i64 (j : Int), .int .i64 ax, .int .i64 tx, .slice At nt ct, .slice Ak nk ck, .int .i64 a, .int .i64 b, .int .i64 c, .int .i64 d, .int .i64 e, .int .i64 W, .int .i64 H, .slice Ax nx cx, .slice Ar nr cr, .slice Ay ny cy, .int .i64 T, .int .i64 Z, .slice Au nu cu, .int .i64 (1 - sx), .int .i64 i, .int .i64 to0] := by
      rw [hW9]
      exact World.rangeAt_setCells_same _ _ _ _ t1
    have K9 : Kp w W9 := by
      rw [hW9]
      exact kpCells K1.size _ _ _ (K1.alloc _)
    have HW9 := Lib.hid hW9
    clear hW9
    go_wp2_with (first | ((with_reducible refine wpList_store_h t1 ?_ ?_ ?_ ?_ ?_ ?_); exact I22.out; (simp [Value.oneCell']); rfl; rfl; rfl; rw [← HW9.out]) | ((with_reducible refine wpList_load_h r9 Tryz.underlying97 ?_ ?_ ?_ ?_ ?_); exact I22.out; rfl; rfl; rfl))
    go_ret
    exact ⟨rfl, K9⟩
  · rw [hm] at hnb CS
    obtain ⟨_, _, n0, n1⟩ := nbB_true hnb
    obtain ⟨i', rfl, hi'⟩ := onI_at hi hlen
    obtain ⟨n, hn, hn'⟩ := onI_at (onI_mk n0 n1) hlen
    have HE : Hid (alwB l m lt lr ld W H us ⟨sx, (j : Int), ax, tx⟩ (i' : Int) dd = (opnB l lt j n && (!(ownN us n == 1 - sx) && !(zonB l m lt lr ld W us (1 - sx) i' && zonB l m lt lr ld W us (1 - sx) n)))) := Lib.hid (by
      unfold alwB stpB
      rw [hm, hn]
      simp only [Int.toNat_natCast, Bool.true_and, Bool.and_assoc]
      congr 2
      rw [Bool.eq_iff_iff]
      simp)
    rw [HE.out]
    rw [hn] at CS
    have CA := Lib.hid (fun (w : World) ht hB hS => allowed_any At Ak nt nk ct ck l m a b c d e W H (.slice Ax nx cx) (.slice Ar nr cr) (.slice Ay ny cy) lt lr ld T Z (.slice Au nu cu) us sx ax tx (1 - sx) j i' n w ht hB hS hok hst hj hi' hn')
    generalize (opnB l lt j n && (!(ownN us n == 1 - sx) && !(zonB l m lt lr ld W us (1 - sx) i' && zonB l m lt lr ld W us (1 - sx) n))) = R at CA ⊢
    clear HE ht hB hS hok hst hz hi hd hu hss hj hnb hlen hm hn hn' hi' n0 n1
    go_enter Tryz.func52, Tryz.ntmps52
    go_wp2_with fail
    refine (CS.out _ (HT.out.keep KA) (HB.out.keep KA) (HS.out.keep KA)).mono ?_
    rintro e1 w1 ⟨rfl, k1⟩
    have K1 := KA.trans k1
    rw [vI_true]
    have I22 : Hid ((Tryz.prog.info? 97).map (·.size) = some 22) := Lib.hid (by kernel_rfl)
    have t1 : World.there (w1.alloc (.cells #[.int .i64 0, .int .i64 0, .int .i64 0, .int .i64 0, .slice none 0 0, .slice none 0 0, .int .i64 0, .int .i64 0, .int .i64 0, .int .i64 0, .int .i64 0, .int .i64 0, .int .i64 0, .slice none 0 0, .slice none 0 0, .slice none 0 0, .int .i64 0, .int .i64 0, .slice none 0 0, .int .i64 0, .int .i64 0, .int .i64 0] 97)) w1.heap.size 0 (#[.int .i64 sx, .int .i64 (j : Int), .int .i64 ax, .int .i64 tx, .slice At nt ct, .slice Ak nk ck, .int .i64 a, .int .i64 b, .int .i64 c, .int .i64 d, .int .i64 e, .int .i64 W, .int .i64 H, .slice Ax nx cx, .slice Ar nr cr, .slice Ay ny cy, .int .i64 T, .int .i64 Z, .slice Au nu cu, .int .i64 (1 - sx), .int .i64 (i' : Int), .int .i64 (n : Int)] : Array Value).size := there_new w1 [.int .i64 0, .int .i64 0, .int .i64 0, .int .i64 0, .slice none 0 0, .slice none 0 0, .int .i64 0, .int .i64 0, .int .i64 0, .int .i64 0, .int .i64 0, .int .i64 0, .int .i64 0, .slice none 0 0, .slice none 0 0, .slice none 0 0, .int .i64 0, .int .i64 0, .slice none 0 0, .int .i64 0, .int .i64 0, .int .i64 0] 97
    obtain ⟨W9, hW9⟩ : ∃ W9, W9 = (w1.alloc (.cells #[.int .i64 0, .int .i64 0, .int .i64 0, .int .i64 0, .slice none 0 0, .slice none 0 0, .int .i64 0, .int .i64 0, .int .i64 0, .int .i64 0, .int .i64 0, .int .i64 0, .int .i64 0, .slice none 0 0, .slice none 0 0, .slice none 0 0, .int .i64 0, .int .i64 0, .slice none 0 0, .int .i64 0, .int .i64 0, .int .i64 0] 97)).setCells w1.heap.size 0 (#[.int .i64 sx, .int .i64 (j : Int), .int .i64 ax, .int .i64 tx, .slice At nt ct, .slice Ak nk ck, .int .i64 a, .int .i64 b, .int .i64 c, .int .i64 d, .int .i64 e, .int .i64 W, .int .i64 H, .slice Ax nx cx, .slice Ar nr cr, .slice Ay ny cy, .int .i64 T, .int .i64 Z, .slice Au nu cu, .int .i64 (1 - sx), .int .i64 (i' : Int), .int .i64 (n : Int)] : Array Value).toList := ⟨_, rfl⟩
    have r9 : World.rangeAt W9 w1.heap.size 0 [.int .i64 sx, .int .i64 (j : Int), .int .i64 ax, .int .i64 tx, .slice At nt ct, .slice Ak nk ck, .int .i64 a, .int .i64 b, .int .i64 c, .int .i64 d, .int .i64 e, .int .i64 W, .int .i64 H, .slice Ax nx cx, .slice Ar nr cr, .slice Ay ny cy, .int .i64 T, .int .i64 Z, .slice Au nu cu, .int .i64 (1 - sx), .int .i64 (i' : Int), .int .i64 (n : Int)] := by
      rw [hW9]
      exact World.rangeAt_setCells_same _ _ _ _ t1
    have K9 : Kp w W9 := by
      rw [hW9]
      exact kpCells K1.size _ _ _ (K1.alloc _)
    have HW9 := Lib.hid hW9
    clear hW9
    go_wp2_with (first | ((with_reducible refine wpList_store_h t1 ?_ ?_ ?_ ?_ ?_ ?_); exact I22.out; (simp [Value.oneCell']); rfl; rfl; rfl; rw [← HW9.out]) | ((with_reducible refine wpList_load_h r9 Tryz.underlying97 ?_ ?_ ?_ ?_ ?_); exact I22.out; rfl; rfl; rfl))
    refine (CA.out _ (HT.out.keep K9) (HB.out.keep K9) (HS.out.keep K9)).mono ?_
    rintro e2 w2 ⟨rfl, k2⟩
    go_wp2_with fail
    go_ret
    exact ⟨ret_bool (by simp), K9.trans k2⟩

theorem isStepAllowed_any (At Ak : Option Addr) (nt nk ct ck : Nat) (l : List Ter) (m : List Knd) (a b c d e W H : Int) (x r y : Value) (lt lr ld : List Int) (T Z : Int) (u : Value) (us : List Uni) (k : Nat) (sx ax tx : Int) (kx i dd : Int) (w : World) (ht : Tab w) (hB : BrdAt w At Ak nt nk l m x r y lt lr ld) (hS : StaAt w u us) (hok : brdOk ⟨l, m, a, b, c, d, e⟩ W H lt lr ld = true) (hst : staOk ⟨l, m, a, b, c, d, e⟩ W H lt T Z us = true) (hz : us[k]? = some ⟨sx, kx, ax, tx⟩) (hi : onI W H i = true) (hd : dirB dd = true) :
    Calls Tryz.prog 52 #[bv (.slice At nt ct) (.slice Ak nk ck) a b c d e W H x r y, sv T Z u, .int .i64 (k : Int), .int .i64 i, .int .i64 dd] w fun e' w' => e' = .returned (.bool (alwB l m lt lr ld W H us ⟨sx, kx, ax, tx⟩ i dd)) ∧ Kp w w' := by
  obtain ⟨Ax, cx, rfl, _⟩ := hB.L.rt
  obtain ⟨Ar, cr, rfl, _⟩ := hB.L.rr
  obtain ⟨Ay, cy, rfl, _⟩ := hB.L.rd
  obtain ⟨Au, cu, rfl, _⟩ := hS.rd
  exact isStepAllowed_s At Ak nt nk ct ck l m a b c d e W H Ax Ar Ay lt.length cx lr.length cr ld.length cy lt lr ld T Z Au us.length cu us k sx ax tx kx i dd w ht hB hS hok hst hz hi hd

end Go.Proofs.YtiojmbbdcccokaaGreatDoor
