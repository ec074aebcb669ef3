/-
  A unit's allowed steps; StepAllowed of the program. Nothing that was there is changed. The named variables hold what the program's text lays.
-/
import Derived.Test.YtiojmbbdcccokaaGreatDoorZnA
import Derived.Test.YtiojmbbdcccokaaGreatDoorZnB
import Derived.Test.YtiojmbbdcccokaaGreatDoorQa
import Derived.Test.YtiojmbbdcccokaaGreatDoorQa
namespace Go.Proofs.YtiojmbbdcccokaaGreatDoor
open Go.RowKit


set_option maxRecDepth 100000 in
set_option maxHeartbeats 4000000 in
theorem isStepAllowed_s (At Ak : Option Addr) (nt nk ct ck : Nat) (l : List Ter) (m : List Knd) (a b c d e W H : Int) (Ax Ar Ay : Option Addr) (nx cx nr cr ny cy : Nat) (lt lr ld : List Int) (T Z : Int) (Au : Option Addr) (nu cu : Nat) (us : List Uni) (k : Nat) (sx ax tx : Int) (kx i dd : Int) (w : World) (ht : Tab w) (hB : BrdAt w At Ak nt nk l m (.slice Ax nx cx) (.slice Ar nr cr) (.slice Ay ny cy) lt lr ld) (hS : StaAt w (.slice Au nu cu) us) (hok : brdOk ⟨l, m, a, b, c, d, e⟩ W H lt lr ld = true) (hst : staOk ⟨l, m, a, b, c, d, e⟩ W H lt T Z us = true) (hz : us[k]? = some ⟨sx, kx, ax, tx⟩) (hi : onI W H i = true) (hd : dirB dd = true) :
    Calls Tryz.prog 52 #[bv (.slice At nt ct) (.slice Ak nk ck) a b c d e W H (.slice Ax nx cx) (.slice Ar nr cr) (.slice Ay ny cy), sv T Z (.slice Au nu cu), .int .i64 (k : Int), .int .i64 i, .int .i64 dd] w fun e' w' => e' = .returned (.bool (alwB l m lt lr ld W H us ⟨sx, kx, ax, tx⟩ i dd)) ∧ Kp w w' := by
  obtain ⟨g1, g2, g3, g4⟩ := mapOk_side (brdOk_map hok)
  have hlen := mapOk_len (brdOk_map hok)
  have hu : uniOk l m W H lt ⟨sx, kx, ax, tx⟩ = true := (staOk_parts hst).2.2.1 _ (List.mem_of_getElem? hz)
  have hss := (uniOk_side hu).1
  simp only at hss
  obtain ⟨j, kd, e1, hj, _, _⟩ := uniOk_kind hu
  simp only at e1
  subst e1
  have hnb : nbB W H i dd = nbM W H i dd := by unfold nbB; rw [hi, hd]; rfl
  have KA : Kp w ((w.alloc (.cells #[.slice At nt ct, .slice Ak nk ck, .int .i64 a, .int .i64 b, .int .i64 c, .int .i64 d, .int .i64 e, .int .i64 W, .int .i64 H, .slice Ax nx cx, .slice Ar nr cr, .slice Ay ny cy] 44)).alloc (.cells #[.int .i64 T, .int .i64 Z, .slice Au nu cu] 48)) := ((Kp.refl w).alloc _).alloc _
  have s0 : cb12 ((w.alloc (.cells #[.slice At nt ct, .slice Ak nk ck, .int .i64 a, .int .i64 b, .int .i64 c, .int .i64 d, .int .i64 e, .int .i64 W, .int .i64 H, .slice Ax nx cx, .slice Ar nr cr, .slice Ay ny cy] 44)).alloc (.cells #[.int .i64 T, .int .i64 Z, .slice Au nu cu] 48)) (w.heap.size) (.slice At nt ct) (.slice Ak nk ck) (.int .i64 a) (.int .i64 b) (.int .i64 c) (.int .i64 d) (.int .i64 e) (.int .i64 W) (.int .i64 H) (.slice Ax nx cx) (.slice Ar nr cr) (.slice Ay ny cy) (cb3 ((w.alloc (.cells #[.slice At nt ct, .slice Ak nk ck, .int .i64 a, .int .i64 b, .int .i64 c, .int .i64 d, .int .i64 e, .int .i64 W, .int .i64 H, .slice Ax nx cx, .slice Ar nr cr, .slice Ay ny cy] 44)).alloc (.cells #[.int .i64 T, .int .i64 Z, .slice Au nu cu] 48)) (w.heap.size + 1) (.int .i64 T) (.int .i64 Z) (.slice Au nu cu) (Kp w ((w.alloc (.cells #[.slice At nt ct, .slice Ak nk ck, .int .i64 a, .int .i64 b, .int .i64 c, .int .i64 d, .int .i64 e, .int .i64 W, .int .i64 H, .slice Ax nx cx, .slice Ar nr cr, .slice Ay ny cy] 44)).alloc (.cells #[.int .i64 T, .int .i64 Z, .slice Au nu cu] 48)))) := ⟨by simp [go_sem], by simp [go_sem], by simp [go_sem], by simp [go_sem], by simp [go_sem], by simp [go_sem], by simp [go_sem], by simp [go_sem], by simp [go_sem], by simp [go_sem], by simp [go_sem], by simp [go_sem], by simp [go_sem], by simp [go_sem], by simp [go_sem], KA⟩
  have HT := Lib.hid ht
  have HB := Lib.hid hB
  have HS := Lib.hid hS
  have CS := Lib.hid (fun (w : World) ht hB hS => stepOf_any At Ak nt nk ct ck l m a b c d e W H (.slice Ax nx cx) (.slice Ar nr cr) (.slice Ay ny cy) lt lr ld T Z (.slice Au nu cu) us k sx (j : Int) ax tx i dd _ _ w ht hB hS hz hss g1 g2 g3 g4 rfl rfl)
  rw [hnb] at CS
  cases hm : nbM W H i dd
  · have HE : Hid (alwB l m lt lr ld W H us ⟨sx, (j : Int), ax, tx⟩ i dd = false) := Lib.hid (by unfold alwB; rw [hm]; rfl)
    rw [HE.out]
    rw [hm] at CS
    generalize vI false (nbI W i dd) = to0 at CS
    clear HE ht hB hS hok hst hz hi hd hu hss hj hnb hlen hm
    go_enter Tryz.func52, Tryz.ntmps52
    go_wp2_with fail
    refine (CS.out _ (HT.out.keep KA) (HB.out.keep KA) (HS.out.keep KA)).mono ?_
    rintro e1 w1 ⟨rfl, k1⟩
    have K1 := KA.trans k1
    have I22 : Hid ((Tryz.prog.info? 97).map (·.size) = some 22) := Lib.hid (by kernel_rfl)
    have t1 : World.there (w1.alloc (.cells #[.int .i64 0, .int .i64 0, .int .i64 0, .int .i64 0, .slice none 0 0, .slice none 0 0, .int .i64 0, .int .i64 0, .int .i64 0, .int .i64 0, .int .i64 0, .int .i64 0, .int .i64 0, .slice none 0 0, .slice none 0 0, .slice none 0 0, .int .i64 0, .int .i64 0, .slice none 0 0, .int .i64 0, .int .i64 0, .int .i64 0] 97)) w1.heap.size 0 (#[.int .i64 sx, .int .i64 (j : Int), .int .i64 ax, .int .i64 tx, .slice At nt ct, .slice Ak nk ck, .int .i64 a, .int .i64 b, .int .i64 c, .int .i64 d, .int .i64 e, .int .i64 W, .int .i64 H, .slice Ax nx cx, .slice Ar nr cr, .slice Ay ny cy, .int .i64 T, .int .i64 Z, .slice Au nu cu, .int .i64 (1 - sx), .int .i64 i, .int .i64 to0] : Array Value).size := there_new w1 [.int .i64 0, .int .i64 0, .int .i64 0, .int .i64 0, .slice none 0 0, .slice none 0 0, .int .i64 0, .int .i64 0, .int .i64 0, .int .i64 0, .int .i64 0, .int .i64 0, .int .i64 0, .slice none 0 0, .slice none 0 0, .slice none 0 0, .int .i64 0, .int .i64 0, .slice none 0 0, .int .i64 0, .int .i64 0, .int .i64 0] 97
    obtain ⟨W9, hW9⟩ : ∃ W9, W9 = (w1.alloc (.cells #[.int .i64 0, .int .i64 0, .int .i64 0, .int .i64 0, .slice none 0 0, .slice none 0 0, .int .i64 0, .int .i64 0, .int .i64 0, .int .i64 0, .int .i64 0, .int .i64 0, .int .i64 0, .slice none 0 0, .slice none 0 0, .slice none 0 0, .int .i64 0, .int .i64 0, .slice none 0 0, .int .i64 0, .int .i64 0, .int .i64 0] 97)).setCells w1.heap.size 0 (#[.int .i64 sx, .int .i64 (j : Int), .int .i64 ax, .int .i64 tx, .slice At nt ct, .slice Ak nk ck, .int .i64 a, .int .i64 b, .int .i64 c, .int .i64 d, .int .i64 e, .int .i64 W, .int .i64 H, .slice Ax nx cx, .slice Ar nr cr, .slice Ay ny cy, .int .i64 T, .int .i64 Z, .slice Au nu cu, .int .i64 (1 - sx), .int .i64 i, .int .i64 to0] : Array Value).toList := ⟨_, rfl⟩
    have r9 : World.rangeAt W9 w1.heap.size 0 [.int .i64 sx, .int .i64 (j : Int), .int .i64 ax, .int .i64 tx, .slice At nt ct, .slice Ak nk ck, .int .i64 a, .int .i64 b, .int .i64 c, .int .i64 d, .int .i64 e, .int .i64 W, .int .i64 H, .slice Ax nx cx, .slice Ar nr cr, .slice Ay ny cy, .int .i64 T, .int .i64 Z, .slice Au nu cu, .int .i64 (1 - sx), .int .i64 i, .int .i64 to0] := by
      rw [hW9]
      exact World.rangeAt_setCells_same _ _ _ _ t1
    have K9 : Kp w W9 := by
      rw [hW9]
      exact kpCells K1.size _ _ _ (K1.alloc _)
    have HW9 := Lib.hid hW9
    clear hW9
    go_wp2_with (first | ((with_reducible refine wpList_store_h t1 ?_ ?_ ?_ ?_ ?_ ?_); exact I22.out; (simp [Value.oneCell']); rfl; rfl; rfl; rw [← HW9.out]) | ((with_reducible refine wpList_load_h r9 Tryz.underlying97 ?_ ?_ ?_ ?_ ?_); exact I22.out; rfl; rfl; rfl))
    go_ret
    exact ⟨rfl, K9⟩
  · rw [hm] at hnb CS
    obtain ⟨_, _, n0, n1⟩ := nbB_true hnb
    obtain ⟨i', rfl, hi'⟩ := onI_at hi hlen
    obtain ⟨n, hn, hn'⟩ := onI_at (onI_mk n0 n1) hlen
    have HE : Hid (alwB l m lt lr ld W H us ⟨sx, (j : Int), ax, tx⟩ (i' : Int) dd = (opnB l lt j n && (!(ownN us n == 1 - sx) && !(zonB l m lt lr ld W us (1 - sx) i' && zonB l m lt lr ld W us (1 - sx) n)))) := Lib.hid (by
      unfold alwB stpB
      rw [hm, hn]
      simp only [Int.toNat_natCast, Bool.true_and, Bool.and_assoc]
      congr 2
      rw [Bool.eq_iff_iff]
      simp)
    rw [HE.out]
    rw [hn] at CS
    have CA := Lib.hid (fun (w : World) ht hB hS => allowed_any At Ak nt nk ct ck l m a b c d e W H (.slice Ax nx cx) (.slice Ar nr cr) (.slice Ay ny cy) lt lr ld T Z (.slice Au nu cu) us sx ax tx (1 - sx) j i' n w ht hB hS hok hst hj hi' hn')
    generalize (opnB l lt j n && (!(ownN us n == 1 - sx) && !(zonB l m lt lr ld W us (1 - sx) i' && zonB l m lt lr ld W us (1 - sx) n))) = R at CA ⊢
    clear HE ht hB hS hok hst hz hi hd hu hss hj hnb hlen hm hn hn' hi' n0 n1
    go_enter Tryz.func52, Tryz.ntmps52
    go_wp2_with fail
    refine (CS.out _ (HT.out.keep KA) (HB.out.keep KA) (HS.out.keep KA)).mono ?_
    rintro e1 w1 ⟨rfl, k1⟩
    have K1 := KA.trans k1
    rw [vI_true]
    have I22 : Hid ((Tryz.prog.info? 97).map (·.size) = some 22) := Lib.hid (by kernel_rfl)
    have t1 : World.there (w1.alloc (.cells #[.int .i64 0, .int .i64 0, .int .i64 0, .int .i64 0, .slice none 0 0, .slice none 0 0, .int .i64 0, .int .i64 0, .int .i64 0, .int .i64 0, .int .i64 0, .int .i64 0, .int .i64 0, .slice none 0 0, .slice none 0 0, .slice none 0 0, .int .i64 0, .int .i64 0, .slice none 0 0, .int .i64 0, .int .i64 0, .int .i64 0] 97)) w1.heap.size 0 (#[.int .i64 sx, .int .i64 (j : Int), .int .i64 ax, .int .i64 tx, .slice At nt ct, .slice Ak nk ck, .int .i64 a, .int .i64 b, .int .i64 c, .int .i64 d, .int .i64 e, .int .i64 W, .int .i64 H, .slice Ax nx cx, .slice Ar nr cr, .slice Ay ny cy, .int .i64 T, .int .i64 Z, .slice Au nu cu, .int .i64 (1 - sx), .int .i64 (i' : Int), .int .i64 (n : Int)] : Array Value).size := there_new w1 [.int .i64 0, .int .i64 0, .int .i64 0, .int .i64 0, .slice none 0 0, .slice none 0 0, .int .i64 0, .int .i64 0, .int .i64 0, .int .i64 0, .int .i64 0, .int .i64 0, .int .i64 0, .slice none 0 0, .slice none 0 0, .slice none 0 0, .int .i64 0, .int .i64 0, .slice none 0 0, .int .i64 0, .int .i64 0, .int .i64 0] 97
    obtain ⟨W9, hW9⟩ : ∃ W9, W9 = (w1.alloc (.cells #[.int .i64 0, .int .i64 0, .int .i64 0, .int .i64 0, .slice none 0 0, .slice none 0 0, .int .i64 0, .int .i64 0, .int .i64 0, .int .i64 0, .int .i64 0, .int .i64 0, .int .i64 0, .slice none 0 0, .slice none 0 0, .slice none 0 0, .int .i64 0, .int .i64 0, .slice none 0 0, .int .i64 0, .int .i64 0, .int .i64 0] 97)).setCells w1.heap.size 0 (#[.int .i64 sx, .int .i64 (j : Int), .int .i64 ax, .int .i64 tx, .slice At nt ct, .slice Ak nk ck, .int .i64 a, .int .i64 b, .int .i64 c, .int .i64 d, .int .i64 e, .int .i64 W, .int .i64 H, .slice Ax nx cx, .slice Ar nr cr, .slice Ay ny cy, .int .i64 T, .int .i64 Z, .slice Au nu cu, .int .i64 (1 - sx), .int .i64 (i' : Int), .int .i64 (n : Int)] : Array Value).toList := ⟨_, rfl⟩
    have r9 : World.rangeAt W9 w1.heap.size 0 [.int .i64 sx, .int .i64 (j : Int), .int .i64 ax, .int .i64 tx, .slice At nt ct, .slice Ak nk ck, .int .i64 a, .int .i64 b, .int .i64 c, .int .i64 d, .int .i64 e, .int .i64 W, .int .i64 H, .slice Ax nx cx, .slice Ar nr cr, .slice Ay ny cy, .int .i64 T, .int .i64 Z, .slice Au nu cu, .int .i64 (1 - sx), .int .i64 (i' : Int), .int .i64 (n : Int)] := by
      rw [hW9]
      exact World.rangeAt_setCells_same _ _ _ _ t1
    have K9 : Kp w W9 := by
      rw [hW9]
      exact kpCells K1.size _ _ _ (K1.alloc _)
    have HW9 := Lib.hid hW9
    clear hW9
    go_wp2_with (first | ((with_reducible refine wpList_store_h t1 ?_ ?_ ?_ ?_ ?_ ?_); exact I22.out; (simp [Value.oneCell']); rfl; rfl; rfl; rw [← HW9.out]) | ((with_reducible refine wpList_load_h r9 Tryz.underlying97 ?_ ?_ ?_ ?_ ?_); exact I22.out; rfl; rfl; rfl))
    refine (CA.out _ (HT.out.keep K9) (HB.out.keep K9) (HS.out.keep K9)).mono ?_
    rintro e2 w2 ⟨rfl, k2⟩
    go_wp2_with fail
    go_ret
    exact ⟨ret_bool (by simp), K9.trans k2⟩

theorem isStepAllowed_any (At Ak : Option Addr) (nt nk ct ck : Nat) (l : List Ter) (m : List Knd) (a b c d e W H : Int) (x r y : Value) (lt lr ld : List Int) (T Z : Int) (u : Value) (us : List Uni) (k : Nat) (sx ax tx : Int) (kx i dd : Int) (w : World) (ht : Tab w) (hB : BrdAt w At Ak nt nk l m x r y lt lr ld) (hS : StaAt w u us) (hok : brdOk ⟨l, m, a, b, c, d, e⟩ W H lt lr ld = true) (hst : staOk ⟨l, m, a, b, c, d, e⟩ W H lt T Z us = true) (hz : us[k]? = some ⟨sx, kx, ax, tx⟩) (hi : onI W H i = true) (hd : dirB dd = true) :
    Calls Tryz.prog 52 #[bv (.slice At nt ct) (.slice Ak nk ck) a b c d e W H x r y, sv T Z u, .int .i64 (k : Int), .int .i64 i, .int .i64 dd] w fun e' w' => e' = .returned (.bool (alwB l m lt lr ld W H us ⟨sx, kx, ax, tx⟩ i dd)) ∧ Kp w w' := by
  obtain ⟨Ax, cx, rfl, _⟩ := hB.L.rt
  obtain ⟨Ar, cr, rfl, _⟩ := hB.L.rr
  obtain ⟨Ay, cy, rfl, _⟩ := hB.L.rd
  obtain ⟨Au, cu, rfl, _⟩ := hS.rd
  exact isStepAllowed_s At Ak nt nk ct ck l m a b c d e W H Ax Ar Ay lt.length cx lr.length cr ld.length cy lt lr ld T Z Au us.length cu us k sx ax tx kx i dd w ht hB hS hok hst hz hi hd

set_option maxRecDepth 100000 in
set_option maxHeartbeats 4000000 in
theorem stepAllowedP_any (At Ak : Option Addr) (nt nk ct ck : Nat) (l : List Ter) (m : List Knd) (a b c d e W H : Int) (x r y : Value) (lt lr ld : List Int) (T Z : Int) (u : Value) (us : List Uni) (un i dd : Int) (w : World) (hs : Spans w) (ht : Tab w) (hu : SpU w) (hB : BrdAt w At Ak nt nk l m x r y lt lr ld) (hS : StaAt w u us) :
    Calls Tryz.prog 21 #[bv (.slice At nt ct) (.slice Ak nk ck) a b c d e W H x r y, sv T Z u, .int .i64 un, .int .i64 i, .int .i64 dd] w fun e' w' => e' = .returned (.tuple #[.bool (((((brdOk ⟨l, m, a, b, c, d, e⟩ W H lt lr ld && staOk ⟨l, m, a, b, c, d, e⟩ W H lt T Z us) && inB un us.length) && onI W H i) && dirB dd) && alwB l m lt lr ld W H us (unN us un) i dd), .bool ((((brdOk ⟨l, m, a, b, c, d, e⟩ W H lt lr ld && staOk ⟨l, m, a, b, c, d, e⟩ W H lt T Z us) && inB un us.length) && onI W H i) && dirB dd)]) ∧ Kp w w' := by
  have KA : Kp w ((w.alloc (.cells #[.slice At nt ct, .slice Ak nk ck, .int .i64 a, .int .i64 b, .int .i64 c, .int .i64 d, .int .i64 e, .int .i64 W, .int .i64 H, x, r, y] 44)).alloc (.cells #[.int .i64 T, .int .i64 Z, u] 48)) := ((Kp.refl w).alloc _).alloc _
  have s0 : cb12 ((w.alloc (.cells #[.slice At nt ct, .slice Ak nk ck, .int .i64 a, .int .i64 b, .int .i64 c, .int .i64 d, .int .i64 e, .int .i64 W, .int .i64 H, x, r, y] 44)).alloc (.cells #[.int .i64 T, .int .i64 Z, u] 48)) (w.heap.size) (.slice At nt ct) (.slice Ak nk ck) (.int .i64 a) (.int .i64 b) (.int .i64 c) (.int .i64 d) (.int .i64 e) (.int .i64 W) (.int .i64 H) (x) (r) (y) (cb3 ((w.alloc (.cells #[.slice At nt ct, .slice Ak nk ck, .int .i64 a, .int .i64 b, .int .i64 c, .int .i64 d, .int .i64 e, .int .i64 W, .int .i64 H, x, r, y] 44)).alloc (.cells #[.int .i64 T, .int .i64 Z, u] 48)) (w.heap.size + 1) (.int .i64 T) (.int .i64 Z) (u) (Kp w ((w.alloc (.cells #[.slice At nt ct, .slice Ak nk ck, .int .i64 a, .int .i64 b, .int .i64 c, .int .i64 d, .int .i64 e, .int .i64 W, .int .i64 H, x, r, y] 44)).alloc (.cells #[.int .i64 T, .int .i64 Z, u] 48)))) := ⟨by simp [go_sem], by simp [go_sem], by simp [go_sem], by simp [go_sem], by simp [go_sem], by simp [go_sem], by simp [go_sem], by simp [go_sem], by simp [go_sem], by simp [go_sem], by simp [go_sem], by simp [go_sem], by simp [go_sem], by simp [go_sem], by simp [go_sem], KA⟩
  have HSP := Lib.hid hs
  have HT := Lib.hid ht
  have HU := Lib.hid hu
  have HB := Lib.hid hB
  have HS := Lib.hid hS
  clear hs ht hu hB hS
  have CUN := Lib.hid (fun (w : World) hs ht hu hB hS => isUnitOn_any At Ak nt nk ct ck l m a b c d e W H x r y lt lr ld T Z u us un w hs ht hu hB hS)
  cases hg0 : (brdOk ⟨l, m, a, b, c, d, e⟩ W H lt lr ld && staOk ⟨l, m, a, b, c, d, e⟩ W H lt T Z us) && inB un us.length
  · rw [hg0] at CUN
    clear hg0
    repeat (first | rw [Bool.true_and] | rw [Bool.and_true] | rw [Bool.false_and] | rw [Bool.and_false])
    go_enter Tryz.func21, Tryz.ntmps21
    go_wp2_with fail
    refine (CUN.out _ (HSP.out.keep s0.2.2.2.2.2.2.2.2.2.2.2.2.2.2.2) (HT.out.keep s0.2.2.2.2.2.2.2.2.2.2.2.2.2.2.2) (HU.out.keep s0.2.2.2.2.2.2.2.2.2.2.2.2.2.2.2) (HB.out.keep s0.2.2.2.2.2.2.2.2.2.2.2.2.2.2.2) (HS.out.keep s0.2.2.2.2.2.2.2.2.2.2.2.2.2.2.2)).mono ?_
    rintro e1 w1 ⟨rfl, k1⟩
    have s1 := keepy15 k1 s0
    clear s0 k1
    go_wp2_with fail
    go_ret2
    exact ⟨rfl, s1.2.2.2.2.2.2.2.2.2.2.2.2.2.2.2⟩
  · rw [hg0] at CUN
    have hok : brdOk ⟨l, m, a, b, c, d, e⟩ W H lt lr ld = true := by
      simp only [Bool.and_eq_true] at hg0
      exact hg0.1.1
    have hst : staOk ⟨l, m, a, b, c, d, e⟩ W H lt T Z us = true := by
      simp only [Bool.and_eq_true] at hg0
      exact hg0.1.2
    obtain ⟨p1, p2, p3, p4⟩ := mapOk_side (brdOk_map hok)
    have hlen := mapOk_len (brdOk_map hok)
    have hun : inB un us.length = true := by
      simp only [Bool.and_eq_true] at hg0
      exact hg0.2
    have CIX : Hid (∀ w, Calls Tryz.prog 50 #[mp W H x r y, .int .i64 i] w fun e' w' => e' = .returned (.bool (onI W H i)) ∧ Kp w w') := Lib.hid fun w => isIndex_any W H x r y i w p1 p2 p3 p4
    cases hg1 : onI W H i
    · rw [hg1] at CIX
      clear hg1 hok hst p1 p2 p3 p4 hlen hun hg0
      repeat (first | rw [Bool.true_and] | rw [Bool.and_true] | rw [Bool.false_and] | rw [Bool.and_false])
      go_enter Tryz.func21, Tryz.ntmps21
      go_wp2_with fail
      refine (CUN.out _ (HSP.out.keep s0.2.2.2.2.2.2.2.2.2.2.2.2.2.2.2) (HT.out.keep s0.2.2.2.2.2.2.2.2.2.2.2.2.2.2.2) (HU.out.keep s0.2.2.2.2.2.2.2.2.2.2.2.2.2.2.2) (HB.out.keep s0.2.2.2.2.2.2.2.2.2.2.2.2.2.2.2) (HS.out.keep s0.2.2.2.2.2.2.2.2.2.2.2.2.2.2.2)).mono ?_
      rintro e1 w1 ⟨rfl, k1⟩
      have s1 := keepy15 k1 s0
      clear s0 k1
      go_wp2_with fail
      refine (CIX.out _).mono ?_
      rintro e2 w2 ⟨rfl, k2⟩
      have s2 := keepy15 k2 s1
      clear s1 k2
      go_wp2_with fail
      go_ret2
      exact ⟨rfl, s2.2.2.2.2.2.2.2.2.2.2.2.2.2.2.2⟩
    · rw [hg1] at CIX
      have CDR : Hid (∀ w, Calls Tryz.prog 51 #[.int .i64 dd] w fun e' w' => e' = .returned (.bool (dirB dd)) ∧ Kp w w') := Lib.hid fun w => (isDirection_any dd w).mono fun _ _ h => ⟨h.1, by first | exact h.2 | exact h.2 ▸ Kp.refl _⟩
      cases hg2 : dirB dd
      · rw [hg2] at CDR
        clear hg2 hok hst p1 p2 p3 p4 hlen hun hg0 hg1
        repeat (first | rw [Bool.true_and] | rw [Bool.and_true] | rw [Bool.false_and] | rw [Bool.and_false])
        go_enter Tryz.func21, Tryz.ntmps21
        go_wp2_with fail
        refine (CUN.out _ (HSP.out.keep s0.2.2.2.2.2.2.2.2.2.2.2.2.2.2.2) (HT.out.keep s0.2.2.2.2.2.2.2.2.2.2.2.2.2.2.2) (HU.out.keep s0.2.2.2.2.2.2.2.2.2.2.2.2.2.2.2) (HB.out.keep s0.2.2.2.2.2.2.2.2.2.2.2.2.2.2.2) (HS.out.keep s0.2.2.2.2.2.2.2.2.2.2.2.2.2.2.2)).mono ?_
        rintro e1 w1 ⟨rfl, k1⟩
        have s1 := keepy15 k1 s0
        clear s0 k1
        go_wp2_with fail
        refine (CIX.out _).mono ?_
        rintro e2 w2 ⟨rfl, k2⟩
        have s2 := keepy15 k2 s1
        clear s1 k2
        go_wp2_with fail
        refine (CDR.out _).mono ?_
        rintro e3 w3 ⟨rfl, k3⟩
        have s3 := keepy15 k3 s2
        clear s2 k3
        go_wp2_with fail
        go_ret2
        exact ⟨rfl, s3.2.2.2.2.2.2.2.2.2.2.2.2.2.2.2⟩
      · rw [hg2] at CDR
        obtain ⟨k0, rfl, hk0, hk1⟩ := unN_of hun
        have CA := Lib.hid (fun (w : World) ht hB hS => isStepAllowed_any At Ak nt nk ct ck l m a b c d e W H x r y lt lr ld T Z u us k0 (unN us (k0 : Int)).s (unN us (k0 : Int)).a (unN us (k0 : Int)).t (unN us (k0 : Int)).k i dd w ht hB hS hok hst hk1 hg1 hg2)
        generalize alwB l m lt lr ld W H us _ i dd = R at CA ⊢
        clear hok hst p1 p2 p3 p4 hlen hun hg0 hg1 hg2 hk0 hk1
        repeat (first | rw [Bool.true_and] | rw [Bool.and_true] | rw [Bool.false_and] | rw [Bool.and_false])
        go_enter Tryz.func21, Tryz.ntmps21
        go_wp2_with fail
        refine (CUN.out _ (HSP.out.keep s0.2.2.2.2.2.2.2.2.2.2.2.2.2.2.2) (HT.out.keep s0.2.2.2.2.2.2.2.2.2.2.2.2.2.2.2) (HU.out.keep s0.2.2.2.2.2.2.2.2.2.2.2.2.2.2.2) (HB.out.keep s0.2.2.2.2.2.2.2.2.2.2.2.2.2.2.2) (HS.out.keep s0.2.2.2.2.2.2.2.2.2.2.2.2.2.2.2)).mono ?_
        rintro e1 w1 ⟨rfl, k1⟩
        have s1 := keepy15 k1 s0
        clear s0 k1
        go_wp2_with fail
        refine (CIX.out _).mono ?_
        rintro e2 w2 ⟨rfl, k2⟩
        have s2 := keepy15 k2 s1
        clear s1 k2
        go_wp2_with fail
        refine (CDR.out _).mono ?_
        rintro e3 w3 ⟨rfl, k3⟩
        have s3 := keepy15 k3 s2
        clear s2 k3
        go_wp2_with fail
        refine (CA.out _ (HT.out.keep s3.2.2.2.2.2.2.2.2.2.2.2.2.2.2.2) (HB.out.keep s3.2.2.2.2.2.2.2.2.2.2.2.2.2.2.2) (HS.out.keep s3.2.2.2.2.2.2.2.2.2.2.2.2.2.2.2)).mono ?_
        rintro e9 w9 ⟨rfl, k9⟩
        go_wp2_with fail
        go_ret2
        exact ⟨rfl, s3.2.2.2.2.2.2.2.2.2.2.2.2.2.2.2.trans k9⟩

end Go.Proofs.YtiojmbbdcccokaaGreatDoor
