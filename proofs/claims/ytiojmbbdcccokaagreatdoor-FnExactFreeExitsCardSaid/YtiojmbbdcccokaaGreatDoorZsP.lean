/-
  A unit's steps: zAllowed, StepAllowed, FreeExits, IsSurrounded of the reference. Nothing that was there is changed.
-/
import Derived.Test.YtiojmbbdcccokaaGreatDoorZsZ
import Derived.Test.YtiojmbbdcccokaaGreatDoorQa
import Derived.Test.YtiojmbbdcccokaaGreatDoorQa
namespace Go.Proofs.YtiojmbbdcccokaaGreatDoor
open Go.RowKit


set_option maxRecDepth 100000 in
set_option maxHeartbeats 4000000 in
theorem zAllowed_any (At Ak : Option Addr) (nt nk ct ck : Nat) (l : List Ter) (m : List Knd) (a b c d e W H : Int) (x r y : Value) (lt lr ld : List Int) (T Z : Int) (u : Value) (us : List Uni) (k : Nat) (sx kx ax tx : Int) (i dd : Int) (w : World) (hB : BrdAt w At Ak nt nk l m x r y lt lr ld) (hS : StaAt w u us) (hok : brdOk ⟨l, m, a, b, c, d, e⟩ W H lt lr ld = true) (hst : staOk ⟨l, m, a, b, c, d, e⟩ W H lt T Z us = true) (hi : onI W H i = true) (hd : dirB dd = true) (hz : us[k]? = some ⟨sx, kx, ax, tx⟩) :
    Calls Tryz.prog 48 #[bv (.slice At nt ct) (.slice Ak nk ck) a b c d e W H x r y, sv T Z u, .int .i64 (k : Int), .int .i64 i, .int .i64 dd] w fun e' w' => e' = .returned (.bool (alwB l m lt lr ld W H us ⟨sx, kx, ax, tx⟩ i dd)) ∧ Kp w w' := by
  obtain ⟨g1, g2, g3, g4⟩ := mapOk_side (brdOk_map hok)
  have hlen := mapOk_len (brdOk_map hok)
  have hu : uniOk l m W H lt ⟨sx, kx, ax, tx⟩ = true := (staOk_parts hst).2.2.1 _ (List.mem_of_getElem? hz)
  have hss := (uniOk_side hu).1
  simp only at hss
  obtain ⟨j, kd, e1, hj, _, _⟩ := uniOk_kind hu
  simp only at e1
  subst e1
  have HB := Lib.hid hB
  have HS := Lib.hid hS
  obtain ⟨A, cp, rfl, h⟩ := hS.rd
  have hk := (List.getElem?_eq_some_iff.1 hz).1
  obtain ⟨gu, ou, rfl, hc⟩ := h (by omega)
  obtain ⟨q0, q1, q2, q3⟩ := hc k _ hz
  simp only at q0 q1 q2 q3
  obtain ⟨N, hN⟩ : ∃ N, N = us.length := ⟨_, rfl⟩
  rw [← hN] at hk ⊢
  have hk' : (k : Int) < N := by omega
  obtain ⟨i0, i1⟩ := onI_true hi
  obtain ⟨d0, d5⟩ := dirB_true hd
  have CN := Lib.hid (fun (w : World) => mNext_any W H x r y i dd w g1 g2 g3 g4 i0 i1 d0 d5)
  cases hm : nbM W H i dd
  · have HE : Hid (alwB l m lt lr ld W H us ⟨sx, (j : Int), ax, tx⟩ i dd = false) := Lib.hid (by unfold alwB; rw [hm]; rfl)
    rw [HE.out]
    rw [hm] at CN
    clear HE hB hS hok hst hz hi hd hu hj hlen hm h hc hN i0 i1 d0 d5 g1 g2 g3 g4
    have k2 : Kp w ((w.alloc (.cells #[.slice At nt ct, .slice Ak nk ck, .int .i64 a, .int .i64 b, .int .i64 c, .int .i64 d, .int .i64 e, .int .i64 W, .int .i64 H, x, r, y] 44)).alloc (.cells #[.int .i64 T, .int .i64 Z, .slice (some ⟨gu, ou, none⟩) N cp] 48)) := ((Kp.refl w).alloc _).alloc _
    have KA : Kp w (((w.alloc (.cells #[.slice At nt ct, .slice Ak nk ck, .int .i64 a, .int .i64 b, .int .i64 c, .int .i64 d, .int .i64 e, .int .i64 W, .int .i64 H, x, r, y] 44)).alloc (.cells #[.int .i64 T, .int .i64 Z, .slice (some ⟨gu, ou, none⟩) N cp] 48)).alloc (.cells #[.int .i64 sx, .int .i64 (j : Int), .int .i64 ax, .int .i64 tx] 87)) := k2.alloc _
    have a0 := k2.cell q0
    have a1 := k2.cell q1
    have a2 := k2.cell q2
    have a3 := k2.cell q3
    have s0 : cb12 (((w.alloc (.cells #[.slice At nt ct, .slice Ak nk ck, .int .i64 a, .int .i64 b, .int .i64 c, .int .i64 d, .int .i64 e, .int .i64 W, .int .i64 H, x, r, y] 44)).alloc (.cells #[.int .i64 T, .int .i64 Z, .slice (some ⟨gu, ou, none⟩) N cp] 48)).alloc (.cells #[.int .i64 sx, .int .i64 (j : Int), .int .i64 ax, .int .i64 tx] 87)) (w.heap.size) (.slice At nt ct) (.slice Ak nk ck) (.int .i64 a) (.int .i64 b) (.int .i64 c) (.int .i64 d) (.int .i64 e) (.int .i64 W) (.int .i64 H) (x) (r) (y) (cb3 (((w.alloc (.cells #[.slice At nt ct, .slice Ak nk ck, .int .i64 a, .int .i64 b, .int .i64 c, .int .i64 d, .int .i64 e, .int .i64 W, .int .i64 H, x, r, y] 44)).alloc (.cells #[.int .i64 T, .int .i64 Z, .slice (some ⟨gu, ou, none⟩) N cp] 48)).alloc (.cells #[.int .i64 sx, .int .i64 (j : Int), .int .i64 ax, .int .i64 tx] 87)) (w.heap.size + 1) (.int .i64 T) (.int .i64 Z) (.slice (some ⟨gu, ou, none⟩) N cp) (cb4 (((w.alloc (.cells #[.slice At nt ct, .slice Ak nk ck, .int .i64 a, .int .i64 b, .int .i64 c, .int .i64 d, .int .i64 e, .int .i64 W, .int .i64 H, x, r, y] 44)).alloc (.cells #[.int .i64 T, .int .i64 Z, .slice (some ⟨gu, ou, none⟩) N cp] 48)).alloc (.cells #[.int .i64 sx, .int .i64 (j : Int), .int .i64 ax, .int .i64 tx] 87)) (w.heap.size + 1 + 1) (.int .i64 sx) (.int .i64 (j : Int)) (.int .i64 ax) (.int .i64 tx) (Kp w (((w.alloc (.cells #[.slice At nt ct, .slice Ak nk ck, .int .i64 a, .int .i64 b, .int .i64 c, .int .i64 d, .int .i64 e, .int .i64 W, .int .i64 H, x, r, y] 44)).alloc (.cells #[.int .i64 T, .int .i64 Z, .slice (some ⟨gu, ou, none⟩) N cp] 48)).alloc (.cells #[.int .i64 sx, .int .i64 (j : Int), .int .i64 ax, .int .i64 tx] 87))))) := ⟨by simp [go_sem], by simp [go_sem], by simp [go_sem], by simp [go_sem], by simp [go_sem], by simp [go_sem], by simp [go_sem], by simp [go_sem], by simp [go_sem], by simp [go_sem], by simp [go_sem], by simp [go_sem], by simp [go_sem], by simp [go_sem], by simp [go_sem], by simp [go_sem], by simp [go_sem], by simp [go_sem], by simp [go_sem], KA⟩
    clear k2 q0 q1 q2 q3
    rw [orNo_false] at CN
    go_enter Tryz.func48, Tryz.ntmps48
    go_upto_region 2 with (fail)
    clear a0 a1 a2 a3
    generalize (((w.alloc (.cells #[.slice At nt ct, .slice Ak nk ck, .int .i64 a, .int .i64 b, .int .i64 c, .int .i64 d, .int .i64 e, .int .i64 W, .int .i64 H, x, r, y] 44)).alloc (.cells #[.int .i64 T, .int .i64 Z, .slice (some ⟨gu, ou, none⟩) N cp] 48)).alloc (.cells #[.int .i64 sx, .int .i64 (j : Int), .int .i64 ax, .int .i64 tx] 87)) = W0 at *
    go_wp2_with fail
    refine (CN.out _).mono ?_
    rintro e1 w1 ⟨rfl, k1⟩
    have s1a := keepe19 k1 s0
    clear s0 k1 CN
    go_upto_region 3 with (fail)
    have s1 := drewe19 s1a
    clear s1a
    refine wp_region_held_drew (S := (fun w' => cb12 w' (w.heap.size) (.slice At nt ct) (.slice Ak nk ck) (.int .i64 a) (.int .i64 b) (.int .i64 c) (.int .i64 d) (.int .i64 e) (.int .i64 W) (.int .i64 H) (x) (r) (y) (cb3 w' (w.heap.size + 1) (.int .i64 T) (.int .i64 Z) (.slice (some ⟨gu, ou, none⟩) N cp) (cb4 w' (w.heap.size + 1 + 1) (.int .i64 sx) (.int .i64 (j : Int)) (.int .i64 ax) (.int .i64 tx) (Kp w w'))))) (by kernel_rfl) ?_ (fun hHeld => ?_)
    · exact s1
    refine tk 0 ⟨some 23, _, _, _, _, _⟩ ?_ rfl (by kernel_rfl) (fun _ _ _ h => h) (by rfl) ?_ (by assumption) ?_
    rotate_left
    · intro w hSw; (try dsimp only at hSw); go_simp; (all_goals with_reducible rfl)
    simp only [Act.put, sA, sB, sC]
    refine tk 1 ⟨some 24, _, _, _, _, _⟩ ?_ rfl (by kernel_rfl) (fun _ _ _ h => h) (by rfl) ?_ (by assumption) ?_
    rotate_left
    · intro w hSw; (try dsimp only at hSw); go_simp; (all_goals with_reducible rfl)
    simp only [Act.put, sA, sB, sC]
    refine tk 2 ⟨some 25, _, _, _, _, _⟩ ?_ rfl (by kernel_rfl) (fun _ _ _ h => h) (by rfl) ?_ (by assumption) ?_
    rotate_left
    · intro w hSw; (try dsimp only at hSw); go_simp; (all_goals with_reducible rfl)
    simp only [Act.put, sA, sB, sC]
    refine tn 3 ⟨some 26, _, _, _, _, _⟩ rfl (by kernel_rfl) (fun _ _ _ h => h) (by rfl) (by assumption) ?_
    simp only [Act.put, sA, sB, sC]
    refine tn 4 ⟨some 27, _, _, _, _, _⟩ rfl (by kernel_rfl) (fun _ _ _ h => h) (by rfl) (by assumption) ?_
    simp only [Act.put, sA, sB, sC]
    refine tn 5 ⟨some 28, _, _, _, _, _⟩ rfl (by kernel_rfl) (fun _ _ _ h => h) (by rfl) (by assumption) ?_
    simp only [Act.put, sA, sB, sC]
    refine tn 6 ⟨some 29, _, _, _, _, _⟩ rfl (by kernel_rfl) (fun _ _ _ h => h) (by rfl) (by assumption) ?_
    simp only [Act.put, sA, sB, sC]
    refine wpAnyH_ready (rs := [7]) (by kernel_rfl) (by simp) ?_
    refine AllReadyH.cons (o := ⟨some 30, _, _, _, _, _⟩) rfl (fun K hK => ?_) AllReadyH.nil
    go_simp
    refine hK.out _ _ ?_ (fun hHeld => ?_)
    · (try dsimp only); (first | assumption | exact s3 | exact s2 | exact s1)
    clear hK K
    try simp only [Act.put, sA, sB, sC]
    refine tn 8 ⟨some 31, _, _, _, _, _⟩ rfl (by kernel_rfl) (fun _ _ _ h => h) (by rfl) (by assumption) ?_
    simp only [Act.put, sA, sB, sC]
    refine tk 9 ⟨some 32, _, _, _, _, _⟩ ?_ rfl (by kernel_rfl) (fun _ _ _ h => h) (by rfl) ?_ (by assumption) ?_
    rotate_left
    · intro w hSw; (try dsimp only at hSw); go_simp; (all_goals with_reducible rfl)
    simp only [Act.put, sA, sB, sC]
    refine tk 10 ⟨some 33, _, _, _, _, _⟩ ?_ rfl (by kernel_rfl) (fun _ _ _ h => h) (by rfl) ?_ (by assumption) ?_
    rotate_left
    · intro w hSw; (try dsimp only at hSw); go_simp; (all_goals with_reducible rfl)
    simp only [Act.put, sA, sB, sC]
    refine tn 11 ⟨some 34, _, _, _, _, _⟩ rfl (by kernel_rfl) (fun _ _ _ h => h) (by rfl) (by assumption) ?_
    simp only [Act.put, sA, sB, sC]
    refine tn 12 ⟨some 35, _, _, _, _, _⟩ rfl (by kernel_rfl) (fun _ _ _ h => h) (by rfl) (by assumption) ?_
    simp only [Act.put, sA, sB, sC]
    refine tn 14 ⟨some 37, _, _, _, _, _⟩ rfl (by kernel_rfl) (fun _ _ _ h => h) (by rfl) (by assumption) ?_
    simp only [Act.put, sA, sB, sC]
    refine tn 15 ⟨some 38, _, _, _, _, _⟩ rfl (by kernel_rfl) (fun _ _ _ h => h) (by rfl) (by assumption) ?_
    simp only [Act.put, sA, sB, sC]
    refine tn 16 ⟨some 39, _, _, _, _, _⟩ rfl (by kernel_rfl) (fun _ _ _ h => h) (by rfl) (by assumption) ?_
    simp only [Act.put, sA, sB, sC]
    refine wpAnyH_ready (rs := [13]) (by kernel_rfl) (by simp) ?_
    refine AllReadyH.cons (o := ⟨some 36, _, _, _, _, _⟩) rfl (fun K hK => ?_) AllReadyH.nil
    go_simp
    refine hK.out _ _ ?_ (fun hHeld => ?_)
    · (try dsimp only); (first | assumption | exact s3 | exact s2 | exact s1)
    clear hK K
    try simp only [Act.put, sA, sB, sC]
    refine tn 17 ⟨some 40, _, _, _, _, _⟩ rfl (by kernel_rfl) (fun _ _ _ h => h) (by rfl) (by assumption) ?_
    simp only [Act.put, sA, sB, sC]
    refine tk 18 ⟨some 41, _, _, _, _, _⟩ ?_ rfl (by kernel_rfl) (fun _ _ _ h => h) (by rfl) ?_ (by assumption) ?_
    rotate_left
    · intro w hSw; (try dsimp only at hSw); go_simp; (all_goals with_reducible rfl)
    simp only [Act.put, sA, sB, sC]
    refine wpAnyH_done (by kernel_rfl) ?_ _
    go_wp2_with fail
    go_ret
    exact ⟨ret_bool (by simp), hHeld.2.2.2.2.2.2.2.2.2.2.2.2.2.2.2.2.2.2.2⟩
  · rw [hm] at CN
    have hnb : nbB W H i dd = true := by unfold nbB; rw [hi, hd, hm]; rfl
    obtain ⟨_, _, n0, n1⟩ := nbB_true hnb
    obtain ⟨n, hn, hn'⟩ := onI_at (onI_mk n0 n1) hlen
    rw [orNo_true, hn] at CN
    obtain ⟨_, _, z, _, _, _, _, _, h6, h7, _⟩ := brd_hex hok hj hn'
    have hon : onI W H (n : Int) = true := onI_mk (by omega) (by omega)
    have CC := Lib.hid (fun (w : World) hB => bCost_any At Ak nt nk ct ck l m a b c d e W H x r y lt lr ld j n w hB hok hj hn')
    rw [h6] at CC
    have CO := Lib.hid (fun (w : World) hS => sOwner_any T Z (.slice (some ⟨gu, ou, none⟩) N cp) us (n : Int) w hS (staOk_parts hst).2.1)
    have CP := Lib.hid (fun (w : World) hB hS => zIn_any At Ak nt nk ct ck l m a b c d e W H x r y lt lr ld T Z (.slice (some ⟨gu, ou, none⟩) N cp) us i (1 - sx) w hB hS hok hst hi)
    have CQ := Lib.hid (fun (w : World) hB hS => zIn_any At Ak nt nk ct ck l m a b c d e W H x r y lt lr ld T Z (.slice (some ⟨gu, ou, none⟩) N cp) us (n : Int) (1 - sx) w hB hS hok hst hon)
    have HE : Hid (alwB l m lt lr ld W H us ⟨sx, (j : Int), ax, tx⟩ i dd = (decide (0 < z) && (!(ownN us n == 1 - sx) && !(zonB l m lt lr ld W us (1 - sx) i && zonB l m lt lr ld W us (1 - sx) n)))) := Lib.hid (by
      have h9 : opnB l lt j n = decide (0 < z) := by unfold opnB; rw [h6]
      unfold alwB stpB
      rw [hm, hn]
      simp only [Int.toNat_natCast, Bool.true_and, Bool.and_assoc]
      rw [h9]
      congr 2
      rw [Bool.eq_iff_iff]
      simp)
    rw [HE.out]
    rw [← hN] at HS
    generalize ownN us (n : Int) = O at CO ⊢
    generalize zonB l m lt lr ld W us (1 - sx) i = P at CP ⊢
    generalize zonB l m lt lr ld W us (1 - sx) (n : Int) = Q at CQ ⊢
    have hn0 : ¬ (n : Int) < 0 := by omega
    have ew : IntKind.i64.wrap (1 - sx) = 1 - sx := IntWalk.i64_in _ (by omega)
    clear HE hB hS hok hst hz hi hd hu hj hlen hm h hc hN i0 i1 d0 d5 g1 g2 g3 g4 hnb n0 n1 hn hn' h6 hon
    by_cases hzc : z = 0
    · subst hzc
      clear CO CP CQ
      have k2 : Kp w ((w.alloc (.cells #[.slice At nt ct, .slice Ak nk ck, .int .i64 a, .int .i64 b, .int .i64 c, .int .i64 d, .int .i64 e, .int .i64 W, .int .i64 H, x, r, y] 44)).alloc (.cells #[.int .i64 T, .int .i64 Z, .slice (some ⟨gu, ou, none⟩) N cp] 48)) := ((Kp.refl w).alloc _).alloc _
      have KA : Kp w (((w.alloc (.cells #[.slice At nt ct, .slice Ak nk ck, .int .i64 a, .int .i64 b, .int .i64 c, .int .i64 d, .int .i64 e, .int .i64 W, .int .i64 H, x, r, y] 44)).alloc (.cells #[.int .i64 T, .int .i64 Z, .slice (some ⟨gu, ou, none⟩) N cp] 48)).alloc (.cells #[.int .i64 sx, .int .i64 (j : Int), .int .i64 ax, .int .i64 tx] 87)) := k2.alloc _
      have a0 := k2.cell q0
      have a1 := k2.cell q1
      have a2 := k2.cell q2
      have a3 := k2.cell q3
      have s0 : cb12 (((w.alloc (.cells #[.slice At nt ct, .slice Ak nk ck, .int .i64 a, .int .i64 b, .int .i64 c, .int .i64 d, .int .i64 e, .int .i64 W, .int .i64 H, x, r, y] 44)).alloc (.cells #[.int .i64 T, .int .i64 Z, .slice (some ⟨gu, ou, none⟩) N cp] 48)).alloc (.cells #[.int .i64 sx, .int .i64 (j : Int), .int .i64 ax, .int .i64 tx] 87)) (w.heap.size) (.slice At nt ct) (.slice Ak nk ck) (.int .i64 a) (.int .i64 b) (.int .i64 c) (.int .i64 d) (.int .i64 e) (.int .i64 W) (.int .i64 H) (x) (r) (y) (cb3 (((w.alloc (.cells #[.slice At nt ct, .slice Ak nk ck, .int .i64 a, .int .i64 b, .int .i64 c, .int .i64 d, .int .i64 e, .int .i64 W, .int .i64 H, x, r, y] 44)).alloc (.cells #[.int .i64 T, .int .i64 Z, .slice (some ⟨gu, ou, none⟩) N cp] 48)).alloc (.cells #[.int .i64 sx, .int .i64 (j : Int), .int .i64 ax, .int .i64 tx] 87)) (w.heap.size + 1) (.int .i64 T) (.int .i64 Z) (.slice (some ⟨gu, ou, none⟩) N cp) (cb4 (((w.alloc (.cells #[.slice At nt ct, .slice Ak nk ck, .int .i64 a, .int .i64 b, .int .i64 c, .int .i64 d, .int .i64 e, .int .i64 W, .int .i64 H, x, r, y] 44)).alloc (.cells #[.int .i64 T, .int .i64 Z, .slice (some ⟨gu, ou, none⟩) N cp] 48)).alloc (.cells #[.int .i64 sx, .int .i64 (j : Int), .int .i64 ax, .int .i64 tx] 87)) (w.heap.size + 1 + 1) (.int .i64 sx) (.int .i64 (j : Int)) (.int .i64 ax) (.int .i64 tx) (Kp w (((w.alloc (.cells #[.slice At nt ct, .slice Ak nk ck, .int .i64 a, .int .i64 b, .int .i64 c, .int .i64 d, .int .i64 e, .int .i64 W, .int .i64 H, x, r, y] 44)).alloc (.cells #[.int .i64 T, .int .i64 Z, .slice (some ⟨gu, ou, none⟩) N cp] 48)).alloc (.cells #[.int .i64 sx, .int .i64 (j : Int), .int .i64 ax, .int .i64 tx] 87))))) := ⟨by simp [go_sem], by simp [go_sem], by simp [go_sem], by simp [go_sem], by simp [go_sem], by simp [go_sem], by simp [go_sem], by simp [go_sem], by simp [go_sem], by simp [go_sem], by simp [go_sem], by simp [go_sem], by simp [go_sem], by simp [go_sem], by simp [go_sem], by simp [go_sem], by simp [go_sem], by simp [go_sem], by simp [go_sem], KA⟩
      clear k2 q0 q1 q2 q3
      go_enter Tryz.func48, Tryz.ntmps48
      go_upto_region 2 with (fail)
      clear a0 a1 a2 a3
      generalize (((w.alloc (.cells #[.slice At nt ct, .slice Ak nk ck, .int .i64 a, .int .i64 b, .int .i64 c, .int .i64 d, .int .i64 e, .int .i64 W, .int .i64 H, x, r, y] 44)).alloc (.cells #[.int .i64 T, .int .i64 Z, .slice (some ⟨gu, ou, none⟩) N cp] 48)).alloc (.cells #[.int .i64 sx, .int .i64 (j : Int), .int .i64 ax, .int .i64 tx] 87)) = W0 at *
      go_wp2_with fail
      refine (CN.out _).mono ?_
      rintro e1 w1 ⟨rfl, k1⟩
      have s1a := keepe19 k1 s0
      clear s0 k1 CN
      go_upto_region 3 with (fail)
      have s1 := drewe19 s1a
      clear s1a
      refine wp_region_held_drew (S := (fun w' => cb12 w' (w.heap.size) (.slice At nt ct) (.slice Ak nk ck) (.int .i64 a) (.int .i64 b) (.int .i64 c) (.int .i64 d) (.int .i64 e) (.int .i64 W) (.int .i64 H) (x) (r) (y) (cb3 w' (w.heap.size + 1) (.int .i64 T) (.int .i64 Z) (.slice (some ⟨gu, ou, none⟩) N cp) (cb4 w' (w.heap.size + 1 + 1) (.int .i64 sx) (.int .i64 (j : Int)) (.int .i64 ax) (.int .i64 tx) (Kp w w'))))) (by kernel_rfl) ?_ (fun hHeld => ?_)
      · exact s1
      refine tk 0 ⟨some 23, _, _, _, _, _⟩ ?_ rfl (by kernel_rfl) (fun _ _ _ h => h) (by rfl) ?_ (by assumption) ?_
      rotate_left
      · intro w hSw; (try dsimp only at hSw); go_simp; (all_goals with_reducible rfl)
      simp only [Act.put, sA, sB, sC]
      refine tk 1 ⟨some 24, _, _, _, _, _⟩ ?_ rfl (by kernel_rfl) (fun _ _ _ h => h) (by rfl) ?_ (by assumption) ?_
      rotate_left
      · intro w hSw; (try dsimp only at hSw); go_simp; (all_goals with_reducible rfl)
      simp only [Act.put, sA, sB, sC]
      refine tk 2 ⟨some 25, _, _, _, _, _⟩ ?_ rfl (by kernel_rfl) (fun _ _ _ h => h) (by rfl) ?_ (by assumption) ?_
      rotate_left
      · intro w hSw; (try dsimp only at hSw); go_simp; (all_goals with_reducible rfl)
      simp only [Act.put, sA, sB, sC]
      refine tk 3 ⟨some 26, _, _, _, _, _⟩ ?_ rfl (by kernel_rfl) (fun _ _ _ h => h) (by rfl) ?_ (by assumption) ?_
      rotate_left
      · intro w hSw; (try dsimp only at hSw); go_simp; (all_goals with_reducible rfl)
      simp only [Act.put, sA, sB, sC]
      refine tk 4 ⟨some 27, _, _, _, _, _⟩ ?_ rfl (by kernel_rfl) (fun _ _ _ h => h) (by rfl) ?_ (by assumption) ?_
      rotate_left
      · intro w hSw; (try dsimp only at hSw); go_simp; (all_goals with_reducible rfl)
      simp only [Act.put, sA, sB, sC]
      refine tk 5 ⟨some 28, _, _, _, _, _⟩ ?_ rfl (by kernel_rfl) (fun _ _ _ h => h) (by rfl) ?_ (by assumption) ?_
      rotate_left
      · intro w hSw; (try dsimp only at hSw); go_simp; (all_goals with_reducible rfl)
      simp only [Act.put, sA, sB, sC]
      refine tk 6 ⟨some 29, _, _, _, _, _⟩ ?_ rfl (by kernel_rfl) (fun _ _ _ h => h) (by rfl) ?_ (by assumption) ?_
      rotate_left
      · intro w hSw; (try dsimp only at hSw); go_simp; (all_goals with_reducible rfl)
      simp only [Act.put, sA, sB, sC]
      refine wpAnyH_ready (rs := [7]) (by kernel_rfl) (by simp) ?_
      refine AllReadyH.cons (o := ⟨some 30, _, _, _, _, _⟩) rfl (fun K hK => ?_) AllReadyH.nil
      go_simp
      refine (CC.out _ (HB.out.keep hHeld.2.2.2.2.2.2.2.2.2.2.2.2.2.2.2.2.2.2.2)).mono ?_; rintro e2 w2 ⟨rfl, k2⟩; have s2 := keepe19 k2 hHeld
      go_wp2_with fail
      refine hK.out _ _ ?_ (fun hHeld => ?_)
      · (try dsimp only); (first | assumption | exact s3 | exact s2 | exact s1)
      clear hK K
      try simp only [Act.put, sA, sB, sC]
      refine tk 8 ⟨some 31, _, _, _, _, _⟩ ?_ rfl (by kernel_rfl) (fun _ _ _ h => h) (by rfl) ?_ (by assumption) ?_
      rotate_left
      · intro w hSw; (try dsimp only at hSw); go_simp; (all_goals with_reducible rfl)
      simp only [Act.put, sA, sB, sC]
      refine tk 9 ⟨some 32, _, _, _, _, _⟩ ?_ rfl (by kernel_rfl) (fun _ _ _ h => h) (by rfl) ?_ (by assumption) ?_
      rotate_left
      · intro w hSw; (try dsimp only at hSw); go_simp; (all_goals with_reducible rfl)
      simp only [Act.put, sA, sB, sC]
      refine tk 10 ⟨some 33, _, _, _, _, _⟩ ?_ rfl (by kernel_rfl) (fun _ _ _ h => h) (by rfl) ?_ (by assumption) ?_
      rotate_left
      · intro w hSw; (try dsimp only at hSw); go_simp; (all_goals with_reducible rfl)
      simp only [Act.put, sA, sB, sC]
      refine tn 11 ⟨some 34, _, _, _, _, _⟩ rfl (by kernel_rfl) (fun _ _ _ h => h) (by rfl) (by assumption) ?_
      simp only [Act.put, sA, sB, sC]
      refine tn 12 ⟨some 35, _, _, _, _, _⟩ rfl (by kernel_rfl) (fun _ _ _ h => h) (by rfl) (by assumption) ?_
      simp only [Act.put, sA, sB, sC]
      refine tn 14 ⟨some 37, _, _, _, _, _⟩ rfl (by kernel_rfl) (fun _ _ _ h => h) (by rfl) (by assumption) ?_
      simp only [Act.put, sA, sB, sC]
      refine tn 15 ⟨some 38, _, _, _, _, _⟩ rfl (by kernel_rfl) (fun _ _ _ h => h) (by rfl) (by assumption) ?_
      simp only [Act.put, sA, sB, sC]
      refine tn 16 ⟨some 39, _, _, _, _, _⟩ rfl (by kernel_rfl) (fun _ _ _ h => h) (by rfl) (by assumption) ?_
      simp only [Act.put, sA, sB, sC]
      refine wpAnyH_ready (rs := [13]) (by kernel_rfl) (by simp) ?_
      refine AllReadyH.cons (o := ⟨some 36, _, _, _, _, _⟩) rfl (fun K hK => ?_) AllReadyH.nil
      go_simp
      refine hK.out _ _ ?_ (fun hHeld => ?_)
      · (try dsimp only); (first | assumption | exact s3 | exact s2 | exact s1)
      clear hK K
      try simp only [Act.put, sA, sB, sC]
      refine tn 17 ⟨some 40, _, _, _, _, _⟩ rfl (by kernel_rfl) (fun _ _ _ h => h) (by rfl) (by assumption) ?_
      simp only [Act.put, sA, sB, sC]
      refine tk 18 ⟨some 41, _, _, _, _, _⟩ ?_ rfl (by kernel_rfl) (fun _ _ _ h => h) (by rfl) ?_ (by assumption) ?_
      rotate_left
      · intro w hSw; (try dsimp only at hSw); go_simp; (all_goals with_reducible rfl)
      simp only [Act.put, sA, sB, sC]
      refine wpAnyH_done (by kernel_rfl) ?_ _
      go_wp2_with fail
      go_ret
      exact ⟨ret_bool (by simp), hHeld.2.2.2.2.2.2.2.2.2.2.2.2.2.2.2.2.2.2.2⟩
    · have hz1 : (z == 0) = false := by simpa using hzc
      have hz2 : decide (0 < z) = true := by simp; omega
      rw [hz2, Bool.true_and]
      clear hz2 hzc
      cases hO : (O == 1 - sx)
      · cases P
        · clear CQ
          have k2 : Kp w ((w.alloc (.cells #[.slice At nt ct, .slice Ak nk ck, .int .i64 a, .int .i64 b, .int .i64 c, .int .i64 d, .int .i64 e, .int .i64 W, .int .i64 H, x, r, y] 44)).alloc (.cells #[.int .i64 T, .int .i64 Z, .slice (some ⟨gu, ou, none⟩) N cp] 48)) := ((Kp.refl w).alloc _).alloc _
          have KA : Kp w (((w.alloc (.cells #[.slice At nt ct, .slice Ak nk ck, .int .i64 a, .int .i64 b, .int .i64 c, .int .i64 d, .int .i64 e, .int .i64 W, .int .i64 H, x, r, y] 44)).alloc (.cells #[.int .i64 T, .int .i64 Z, .slice (some ⟨gu, ou, none⟩) N cp] 48)).alloc (.cells #[.int .i64 sx, .int .i64 (j : Int), .int .i64 ax, .int .i64 tx] 87)) := k2.alloc _
          have a0 := k2.cell q0
          have a1 := k2.cell q1
          have a2 := k2.cell q2
          have a3 := k2.cell q3
          have s0 : cb12 (((w.alloc (.cells #[.slice At nt ct, .slice Ak nk ck, .int .i64 a, .int .i64 b, .int .i64 c, .int .i64 d, .int .i64 e, .int .i64 W, .int .i64 H, x, r, y] 44)).alloc (.cells #[.int .i64 T, .int .i64 Z, .slice (some ⟨gu, ou, none⟩) N cp] 48)).alloc (.cells #[.int .i64 sx, .int .i64 (j : Int), .int .i64 ax, .int .i64 tx] 87)) (w.heap.size) (.slice At nt ct) (.slice Ak nk ck) (.int .i64 a) (.int .i64 b) (.int .i64 c) (.int .i64 d) (.int .i64 e) (.int .i64 W) (.int .i64 H) (x) (r) (y) (cb3 (((w.alloc (.cells #[.slice At nt ct, .slice Ak nk ck, .int .i64 a, .int .i64 b, .int .i64 c, .int .i64 d, .int .i64 e, .int .i64 W, .int .i64 H, x, r, y] 44)).alloc (.cells #[.int .i64 T, .int .i64 Z, .slice (some ⟨gu, ou, none⟩) N cp] 48)).alloc (.cells #[.int .i64 sx, .int .i64 (j : Int), .int .i64 ax, .int .i64 tx] 87)) (w.heap.size + 1) (.int .i64 T) (.int .i64 Z) (.slice (some ⟨gu, ou, none⟩) N cp) (cb4 (((w.alloc (.cells #[.slice At nt ct, .slice Ak nk ck, .int .i64 a, .int .i64 b, .int .i64 c, .int .i64 d, .int .i64 e, .int .i64 W, .int .i64 H, x, r, y] 44)).alloc (.cells #[.int .i64 T, .int .i64 Z, .slice (some ⟨gu, ou, none⟩) N cp] 48)).alloc (.cells #[.int .i64 sx, .int .i64 (j : Int), .int .i64 ax, .int .i64 tx] 87)) (w.heap.size + 1 + 1) (.int .i64 sx) (.int .i64 (j : Int)) (.int .i64 ax) (.int .i64 tx) (Kp w (((w.alloc (.cells #[.slice At nt ct, .slice Ak nk ck, .int .i64 a, .int .i64 b, .int .i64 c, .int .i64 d, .int .i64 e, .int .i64 W, .int .i64 H, x, r, y] 44)).alloc (.cells #[.int .i64 T, .int .i64 Z, .slice (some ⟨gu, ou, none⟩) N cp] 48)).alloc (.cells #[.int .i64 sx, .int .i64 (j : Int), .int .i64 ax, .int .i64 tx] 87))))) := ⟨by simp [go_sem], by simp [go_sem], by simp [go_sem], by simp [go_sem], by simp [go_sem], by simp [go_sem], by simp [go_sem], by simp [go_sem], by simp [go_sem], by simp [go_sem], by simp [go_sem], by simp [go_sem], by simp [go_sem], by simp [go_sem], by simp [go_sem], by simp [go_sem], by simp [go_sem], by simp [go_sem], by simp [go_sem], KA⟩
          clear k2 q0 q1 q2 q3
          go_enter Tryz.func48, Tryz.ntmps48
          go_upto_region 2 with (fail)
          clear a0 a1 a2 a3
          generalize (((w.alloc (.cells #[.slice At nt ct, .slice Ak nk ck, .int .i64 a, .int .i64 b, .int .i64 c, .int .i64 d, .int .i64 e, .int .i64 W, .int .i64 H, x, r, y] 44)).alloc (.cells #[.int .i64 T, .int .i64 Z, .slice (some ⟨gu, ou, none⟩) N cp] 48)).alloc (.cells #[.int .i64 sx, .int .i64 (j : Int), .int .i64 ax, .int .i64 tx] 87)) = W0 at *
          go_wp2_with fail
          refine (CN.out _).mono ?_
          rintro e1 w1 ⟨rfl, k1⟩
          have s1a := keepe19 k1 s0
          clear s0 k1 CN
          go_upto_region 3 with (fail)
          have s1 := drewe19 s1a
          clear s1a
          refine wp_region_held_drew (S := (fun w' => cb12 w' (w.heap.size) (.slice At nt ct) (.slice Ak nk ck) (.int .i64 a) (.int .i64 b) (.int .i64 c) (.int .i64 d) (.int .i64 e) (.int .i64 W) (.int .i64 H) (x) (r) (y) (cb3 w' (w.heap.size + 1) (.int .i64 T) (.int .i64 Z) (.slice (some ⟨gu, ou, none⟩) N cp) (cb4 w' (w.heap.size + 1 + 1) (.int .i64 sx) (.int .i64 (j : Int)) (.int .i64 ax) (.int .i64 tx) (Kp w w'))))) (by kernel_rfl) ?_ (fun hHeld => ?_)
          · exact s1
          refine tk 0 ⟨some 23, _, _, _, _, _⟩ ?_ rfl (by kernel_rfl) (fun _ _ _ h => h) (by rfl) ?_ (by assumption) ?_
          rotate_left
          · intro w hSw; (try dsimp only at hSw); go_simp; (all_goals with_reducible rfl)
          simp only [Act.put, sA, sB, sC]
          refine tk 1 ⟨some 24, _, _, _, _, _⟩ ?_ rfl (by kernel_rfl) (fun _ _ _ h => h) (by rfl) ?_ (by assumption) ?_
          rotate_left
          · intro w hSw; (try dsimp only at hSw); go_simp; (all_goals with_reducible rfl)
          simp only [Act.put, sA, sB, sC]
          refine tk 2 ⟨some 25, _, _, _, _, _⟩ ?_ rfl (by kernel_rfl) (fun _ _ _ h => h) (by rfl) ?_ (by assumption) ?_
          rotate_left
          · intro w hSw; (try dsimp only at hSw); go_simp; (all_goals with_reducible rfl)
          simp only [Act.put, sA, sB, sC]
          refine tk 3 ⟨some 26, _, _, _, _, _⟩ ?_ rfl (by kernel_rfl) (fun _ _ _ h => h) (by rfl) ?_ (by assumption) ?_
          rotate_left
          · intro w hSw; (try dsimp only at hSw); go_simp; (all_goals with_reducible rfl)
          simp only [Act.put, sA, sB, sC]
          refine tk 4 ⟨some 27, _, _, _, _, _⟩ ?_ rfl (by kernel_rfl) (fun _ _ _ h => h) (by rfl) ?_ (by assumption) ?_
          rotate_left
          · intro w hSw; (try dsimp only at hSw); go_simp; (all_goals with_reducible rfl)
          simp only [Act.put, sA, sB, sC]
          refine tk 5 ⟨some 28, _, _, _, _, _⟩ ?_ rfl (by kernel_rfl) (fun _ _ _ h => h) (by rfl) ?_ (by assumption) ?_
          rotate_left
          · intro w hSw; (try dsimp only at hSw); go_simp; (all_goals with_reducible rfl)
          simp only [Act.put, sA, sB, sC]
          refine tk 6 ⟨some 29, _, _, _, _, _⟩ ?_ rfl (by kernel_rfl) (fun _ _ _ h => h) (by rfl) ?_ (by assumption) ?_
          rotate_left
          · intro w hSw; (try dsimp only at hSw); go_simp; (all_goals with_reducible rfl)
          simp only [Act.put, sA, sB, sC]
          refine wpAnyH_ready (rs := [7]) (by kernel_rfl) (by simp) ?_
          refine AllReadyH.cons (o := ⟨some 30, _, _, _, _, _⟩) rfl (fun K hK => ?_) AllReadyH.nil
          go_simp
          refine (CC.out _ (HB.out.keep hHeld.2.2.2.2.2.2.2.2.2.2.2.2.2.2.2.2.2.2.2)).mono ?_; rintro e2 w2 ⟨rfl, k2⟩; have s2 := keepe19 k2 hHeld
          go_wp2_with fail
          refine hK.out _ _ ?_ (fun hHeld => ?_)
          · (try dsimp only); (first | assumption | exact s3 | exact s2 | exact s1)
          clear hK K
          try simp only [Act.put, sA, sB, sC]
          refine tk 8 ⟨some 31, _, _, _, _, _⟩ ?_ rfl (by kernel_rfl) (fun _ _ _ h => h) (by rfl) ?_ (by assumption) ?_
          rotate_left
          · intro w hSw; (try dsimp only at hSw); go_simp; (all_goals with_reducible rfl)
          simp only [Act.put, sA, sB, sC]
          refine tk 9 ⟨some 32, _, _, _, _, _⟩ ?_ rfl (by kernel_rfl) (fun _ _ _ h => h) (by rfl) ?_ (by assumption) ?_
          rotate_left
          · intro w hSw; (try dsimp only at hSw); go_simp; (all_goals with_reducible rfl)
          simp only [Act.put, sA, sB, sC]
          refine tk 10 ⟨some 33, _, _, _, _, _⟩ ?_ rfl (by kernel_rfl) (fun _ _ _ h => h) (by rfl) ?_ (by assumption) ?_
          rotate_left
          · intro w hSw; (try dsimp only at hSw); go_simp; (all_goals with_reducible rfl)
          simp only [Act.put, sA, sB, sC]
          refine tk 11 ⟨some 34, _, _, _, _, _⟩ ?_ rfl (by kernel_rfl) (fun _ _ _ h => h) (by rfl) ?_ (by assumption) ?_
          rotate_left
          · intro w hSw; (try dsimp only at hSw); go_simp; (all_goals with_reducible rfl)
          simp only [Act.put, sA, sB, sC]
          refine tk 12 ⟨some 35, _, _, _, _, _⟩ ?_ rfl (by kernel_rfl) (fun _ _ _ h => h) (by rfl) ?_ (by assumption) ?_
          rotate_left
          · intro w hSw; (try dsimp only at hSw); go_simp; (all_goals with_reducible rfl)
          simp only [Act.put, sA, sB, sC]
          refine tk 14 ⟨some 37, _, _, _, _, _⟩ ?_ rfl (by kernel_rfl) (fun _ _ _ h => h) (by rfl) ?_ (by assumption) ?_
          rotate_left
          · intro w hSw; (try dsimp only at hSw); go_simp; (all_goals with_reducible rfl)
          simp only [Act.put, sA, sB, sC]
          refine tk 15 ⟨some 38, _, _, _, _, _⟩ ?_ rfl (by kernel_rfl) (fun _ _ _ h => h) (by rfl) ?_ (by assumption) ?_
          rotate_left
          · intro w hSw; (try dsimp only at hSw); go_simp; (all_goals with_reducible rfl)
          simp only [Act.put, sA, sB, sC]
          refine tk 16 ⟨some 39, _, _, _, _, _⟩ ?_ rfl (by kernel_rfl) (fun _ _ _ h => h) (by rfl) ?_ (by assumption) ?_
          rotate_left
          · intro w hSw; (try dsimp only at hSw); go_simp; (all_goals with_reducible rfl)
          simp only [Act.put, sA, sB, sC]
          refine wpAnyH_ready (rs := [13]) (by kernel_rfl) (by simp) ?_
          refine AllReadyH.cons (o := ⟨some 36, _, _, _, _, _⟩) rfl (fun K hK => ?_) AllReadyH.nil
          go_simp
          refine (CO.out _ (HS.out.keep hHeld.2.2.2.2.2.2.2.2.2.2.2.2.2.2.2.2.2.2.2)).mono ?_; rintro e3 w3 ⟨rfl, k3⟩; have s3 := keepe19 k3 hHeld
          go_wp2_with fail
          refine hK.out _ _ ?_ (fun hHeld => ?_)
          · (try dsimp only); (first | assumption | exact s3 | exact s2 | exact s1)
          clear hK K
          try simp only [Act.put, sA, sB, sC]
          refine tk 17 ⟨some 40, _, _, _, _, _⟩ ?_ rfl (by kernel_rfl) (fun _ _ _ h => h) (by rfl) ?_ (by assumption) ?_
          rotate_left
          · intro w hSw; (try dsimp only at hSw); go_simp; (all_goals with_reducible rfl)
          simp only [Act.put, sA, sB, sC]
          refine tk 18 ⟨some 41, _, _, _, _, _⟩ ?_ rfl (by kernel_rfl) (fun _ _ _ h => h) (by rfl) ?_ (by assumption) ?_
          rotate_left
          · intro w hSw; (try dsimp only at hSw); go_simp; (all_goals with_reducible rfl)
          simp only [Act.put, sA, sB, sC]
          refine wpAnyH_done (by kernel_rfl) ?_ _
          go_wp2_with fail
          refine (CP.out _ (HB.out.keep hHeld.2.2.2.2.2.2.2.2.2.2.2.2.2.2.2.2.2.2.2) (HS.out.keep hHeld.2.2.2.2.2.2.2.2.2.2.2.2.2.2.2.2.2.2.2)).mono ?_
          rintro e4 w4 ⟨rfl, k4⟩
          have s4 := keepe19 k4 hHeld
          clear k4
          go_wp2_with fail
          go_ret
          exact ⟨ret_bool (by simp), s4.2.2.2.2.2.2.2.2.2.2.2.2.2.2.2.2.2.2.2⟩
        · skip
          have k2 : Kp w ((w.alloc (.cells #[.slice At nt ct, .slice Ak nk ck, .int .i64 a, .int .i64 b, .int .i64 c, .int .i64 d, .int .i64 e, .int .i64 W, .int .i64 H, x, r, y] 44)).alloc (.cells #[.int .i64 T, .int .i64 Z, .slice (some ⟨gu, ou, none⟩) N cp] 48)) := ((Kp.refl w).alloc _).alloc _
          have KA : Kp w (((w.alloc (.cells #[.slice At nt ct, .slice Ak nk ck, .int .i64 a, .int .i64 b, .int .i64 c, .int .i64 d, .int .i64 e, .int .i64 W, .int .i64 H, x, r, y] 44)).alloc (.cells #[.int .i64 T, .int .i64 Z, .slice (some ⟨gu, ou, none⟩) N cp] 48)).alloc (.cells #[.int .i64 sx, .int .i64 (j : Int), .int .i64 ax, .int .i64 tx] 87)) := k2.alloc _
          have a0 := k2.cell q0
          have a1 := k2.cell q1
          have a2 := k2.cell q2
          have a3 := k2.cell q3
          have s0 : cb12 (((w.alloc (.cells #[.slice At nt ct, .slice Ak nk ck, .int .i64 a, .int .i64 b, .int .i64 c, .int .i64 d, .int .i64 e, .int .i64 W, .int .i64 H, x, r, y] 44)).alloc (.cells #[.int .i64 T, .int .i64 Z, .slice (some ⟨gu, ou, none⟩) N cp] 48)).alloc (.cells #[.int .i64 sx, .int .i64 (j : Int), .int .i64 ax, .int .i64 tx] 87)) (w.heap.size) (.slice At nt ct) (.slice Ak nk ck) (.int .i64 a) (.int .i64 b) (.int .i64 c) (.int .i64 d) (.int .i64 e) (.int .i64 W) (.int .i64 H) (x) (r) (y) (cb3 (((w.alloc (.cells #[.slice At nt ct, .slice Ak nk ck, .int .i64 a, .int .i64 b, .int .i64 c, .int .i64 d, .int .i64 e, .int .i64 W, .int .i64 H, x, r, y] 44)).alloc (.cells #[.int .i64 T, .int .i64 Z, .slice (some ⟨gu, ou, none⟩) N cp] 48)).alloc (.cells #[.int .i64 sx, .int .i64 (j : Int), .int .i64 ax, .int .i64 tx] 87)) (w.heap.size + 1) (.int .i64 T) (.int .i64 Z) (.slice (some ⟨gu, ou, none⟩) N cp) (cb4 (((w.alloc (.cells #[.slice At nt ct, .slice Ak nk ck, .int .i64 a, .int .i64 b, .int .i64 c, .int .i64 d, .int .i64 e, .int .i64 W, .int .i64 H, x, r, y] 44)).alloc (.cells #[.int .i64 T, .int .i64 Z, .slice (some ⟨gu, ou, none⟩) N cp] 48)).alloc (.cells #[.int .i64 sx, .int .i64 (j : Int), .int .i64 ax, .int .i64 tx] 87)) (w.heap.size + 1 + 1) (.int .i64 sx) (.int .i64 (j : Int)) (.int .i64 ax) (.int .i64 tx) (Kp w (((w.alloc (.cells #[.slice At nt ct, .slice Ak nk ck, .int .i64 a, .int .i64 b, .int .i64 c, .int .i64 d, .int .i64 e, .int .i64 W, .int .i64 H, x, r, y] 44)).alloc (.cells #[.int .i64 T, .int .i64 Z, .slice (some ⟨gu, ou, none⟩) N cp] 48)).alloc (.cells #[.int .i64 sx, .int .i64 (j : Int), .int .i64 ax, .int .i64 tx] 87))))) := ⟨by simp [go_sem], by simp [go_sem], by simp [go_sem], by simp [go_sem], by simp [go_sem], by simp [go_sem], by simp [go_sem], by simp [go_sem], by simp [go_sem], by simp [go_sem], by simp [go_sem], by simp [go_sem], by simp [go_sem], by simp [go_sem], by simp [go_sem], by simp [go_sem], by simp [go_sem], by simp [go_sem], by simp [go_sem], KA⟩
          clear k2 q0 q1 q2 q3
          go_enter Tryz.func48, Tryz.ntmps48
          go_upto_region 2 with (fail)
          clear a0 a1 a2 a3
          generalize (((w.alloc (.cells #[.slice At nt ct, .slice Ak nk ck, .int .i64 a, .int .i64 b, .int .i64 c, .int .i64 d, .int .i64 e, .int .i64 W, .int .i64 H, x, r, y] 44)).alloc (.cells #[.int .i64 T, .int .i64 Z, .slice (some ⟨gu, ou, none⟩) N cp] 48)).alloc (.cells #[.int .i64 sx, .int .i64 (j : Int), .int .i64 ax, .int .i64 tx] 87)) = W0 at *
          go_wp2_with fail
          refine (CN.out _).mono ?_
          rintro e1 w1 ⟨rfl, k1⟩
          have s1a := keepe19 k1 s0
          clear s0 k1 CN
          go_upto_region 3 with (fail)
          have s1 := drewe19 s1a
          clear s1a
          refine wp_region_held_drew (S := (fun w' => cb12 w' (w.heap.size) (.slice At nt ct) (.slice Ak nk ck) (.int .i64 a) (.int .i64 b) (.int .i64 c) (.int .i64 d) (.int .i64 e) (.int .i64 W) (.int .i64 H) (x) (r) (y) (cb3 w' (w.heap.size + 1) (.int .i64 T) (.int .i64 Z) (.slice (some ⟨gu, ou, none⟩) N cp) (cb4 w' (w.heap.size + 1 + 1) (.int .i64 sx) (.int .i64 (j : Int)) (.int .i64 ax) (.int .i64 tx) (Kp w w'))))) (by kernel_rfl) ?_ (fun hHeld => ?_)
          · exact s1
          refine tk 0 ⟨some 23, _, _, _, _, _⟩ ?_ rfl (by kernel_rfl) (fun _ _ _ h => h) (by rfl) ?_ (by assumption) ?_
          rotate_left
          · intro w hSw; (try dsimp only at hSw); go_simp; (all_goals with_reducible rfl)
          simp only [Act.put, sA, sB, sC]
          refine tk 1 ⟨some 24, _, _, _, _, _⟩ ?_ rfl (by kernel_rfl) (fun _ _ _ h => h) (by rfl) ?_ (by assumption) ?_
          rotate_left
          · intro w hSw; (try dsimp only at hSw); go_simp; (all_goals with_reducible rfl)
          simp only [Act.put, sA, sB, sC]
          refine tk 2 ⟨some 25, _, _, _, _, _⟩ ?_ rfl (by kernel_rfl) (fun _ _ _ h => h) (by rfl) ?_ (by assumption) ?_
          rotate_left
          · intro w hSw; (try dsimp only at hSw); go_simp; (all_goals with_reducible rfl)
          simp only [Act.put, sA, sB, sC]
          refine tk 3 ⟨some 26, _, _, _, _, _⟩ ?_ rfl (by kernel_rfl) (fun _ _ _ h => h) (by rfl) ?_ (by assumption) ?_
          rotate_left
          · intro w hSw; (try dsimp only at hSw); go_simp; (all_goals with_reducible rfl)
          simp only [Act.put, sA, sB, sC]
          refine tk 4 ⟨some 27, _, _, _, _, _⟩ ?_ rfl (by kernel_rfl) (fun _ _ _ h => h) (by rfl) ?_ (by assumption) ?_
          rotate_left
          · intro w hSw; (try dsimp only at hSw); go_simp; (all_goals with_reducible rfl)
          simp only [Act.put, sA, sB, sC]
          refine tk 5 ⟨some 28, _, _, _, _, _⟩ ?_ rfl (by kernel_rfl) (fun _ _ _ h => h) (by rfl) ?_ (by assumption) ?_
          rotate_left
          · intro w hSw; (try dsimp only at hSw); go_simp; (all_goals with_reducible rfl)
          simp only [Act.put, sA, sB, sC]
          refine tk 6 ⟨some 29, _, _, _, _, _⟩ ?_ rfl (by kernel_rfl) (fun _ _ _ h => h) (by rfl) ?_ (by assumption) ?_
          rotate_left
          · intro w hSw; (try dsimp only at hSw); go_simp; (all_goals with_reducible rfl)
          simp only [Act.put, sA, sB, sC]
          refine wpAnyH_ready (rs := [7]) (by kernel_rfl) (by simp) ?_
          refine AllReadyH.cons (o := ⟨some 30, _, _, _, _, _⟩) rfl (fun K hK => ?_) AllReadyH.nil
          go_simp
          refine (CC.out _ (HB.out.keep hHeld.2.2.2.2.2.2.2.2.2.2.2.2.2.2.2.2.2.2.2)).mono ?_; rintro e2 w2 ⟨rfl, k2⟩; have s2 := keepe19 k2 hHeld
          go_wp2_with fail
          refine hK.out _ _ ?_ (fun hHeld => ?_)
          · (try dsimp only); (first | assumption | exact s3 | exact s2 | exact s1)
          clear hK K
          try simp only [Act.put, sA, sB, sC]
          refine tk 8 ⟨some 31, _, _, _, _, _⟩ ?_ rfl (by kernel_rfl) (fun _ _ _ h => h) (by rfl) ?_ (by assumption) ?_
          rotate_left
          · intro w hSw; (try dsimp only at hSw); go_simp; (all_goals with_reducible rfl)
          simp only [Act.put, sA, sB, sC]
          refine tk 9 ⟨some 32, _, _, _, _, _⟩ ?_ rfl (by kernel_rfl) (fun _ _ _ h => h) (by rfl) ?_ (by assumption) ?_
          rotate_left
          · intro w hSw; (try dsimp only at hSw); go_simp; (all_goals with_reducible rfl)
          simp only [Act.put, sA, sB, sC]
          refine tk 10 ⟨some 33, _, _, _, _, _⟩ ?_ rfl (by kernel_rfl) (fun _ _ _ h => h) (by rfl) ?_ (by assumption) ?_
          rotate_left
          · intro w hSw; (try dsimp only at hSw); go_simp; (all_goals with_reducible rfl)
          simp only [Act.put, sA, sB, sC]
          refine tk 11 ⟨some 34, _, _, _, _, _⟩ ?_ rfl (by kernel_rfl) (fun _ _ _ h => h) (by rfl) ?_ (by assumption) ?_
          rotate_left
          · intro w hSw; (try dsimp only at hSw); go_simp; (all_goals with_reducible rfl)
          simp only [Act.put, sA, sB, sC]
          refine tk 12 ⟨some 35, _, _, _, _, _⟩ ?_ rfl (by kernel_rfl) (fun _ _ _ h => h) (by rfl) ?_ (by assumption) ?_
          rotate_left
          · intro w hSw; (try dsimp only at hSw); go_simp; (all_goals with_reducible rfl)
          simp only [Act.put, sA, sB, sC]
          refine tk 14 ⟨some 37, _, _, _, _, _⟩ ?_ rfl (by kernel_rfl) (fun _ _ _ h => h) (by rfl) ?_ (by assumption) ?_
          rotate_left
          · intro w hSw; (try dsimp only at hSw); go_simp; (all_goals with_reducible rfl)
          simp only [Act.put, sA, sB, sC]
          refine tk 15 ⟨some 38, _, _, _, _, _⟩ ?_ rfl (by kernel_rfl) (fun _ _ _ h => h) (by rfl) ?_ (by assumption) ?_
          rotate_left
          · intro w hSw; (try dsimp only at hSw); go_simp; (all_goals with_reducible rfl)
          simp only [Act.put, sA, sB, sC]
          refine tk 16 ⟨some 39, _, _, _, _, _⟩ ?_ rfl (by kernel_rfl) (fun _ _ _ h => h) (by rfl) ?_ (by assumption) ?_
          rotate_left
          · intro w hSw; (try dsimp only at hSw); go_simp; (all_goals with_reducible rfl)
          simp only [Act.put, sA, sB, sC]
          refine wpAnyH_ready (rs := [13]) (by kernel_rfl) (by simp) ?_
          refine AllReadyH.cons (o := ⟨some 36, _, _, _, _, _⟩) rfl (fun K hK => ?_) AllReadyH.nil
          go_simp
          refine (CO.out _ (HS.out.keep hHeld.2.2.2.2.2.2.2.2.2.2.2.2.2.2.2.2.2.2.2)).mono ?_; rintro e3 w3 ⟨rfl, k3⟩; have s3 := keepe19 k3 hHeld
          go_wp2_with fail
          refine hK.out _ _ ?_ (fun hHeld => ?_)
          · (try dsimp only); (first | assumption | exact s3 | exact s2 | exact s1)
          clear hK K
          try simp only [Act.put, sA, sB, sC]
          refine tk 17 ⟨some 40, _, _, _, _, _⟩ ?_ rfl (by kernel_rfl) (fun _ _ _ h => h) (by rfl) ?_ (by assumption) ?_
          rotate_left
          · intro w hSw; (try dsimp only at hSw); go_simp; (all_goals with_reducible rfl)
          simp only [Act.put, sA, sB, sC]
          refine tk 18 ⟨some 41, _, _, _, _, _⟩ ?_ rfl (by kernel_rfl) (fun _ _ _ h => h) (by rfl) ?_ (by assumption) ?_
          rotate_left
          · intro w hSw; (try dsimp only at hSw); go_simp; (all_goals with_reducible rfl)
          simp only [Act.put, sA, sB, sC]
          refine wpAnyH_done (by kernel_rfl) ?_ _
          go_wp2_with fail
          refine (CP.out _ (HB.out.keep hHeld.2.2.2.2.2.2.2.2.2.2.2.2.2.2.2.2.2.2.2) (HS.out.keep hHeld.2.2.2.2.2.2.2.2.2.2.2.2.2.2.2.2.2.2.2)).mono ?_
          rintro e4 w4 ⟨rfl, k4⟩
          have s4 := keepe19 k4 hHeld
          clear k4
          go_wp2_with fail
          refine (CQ.out _ (HB.out.keep s4.2.2.2.2.2.2.2.2.2.2.2.2.2.2.2.2.2.2.2) (HS.out.keep s4.2.2.2.2.2.2.2.2.2.2.2.2.2.2.2.2.2.2.2)).mono ?_
          rintro e5 w5 ⟨rfl, k5⟩
          have s5 := keepe19 k5 s4
          clear k5
          go_wp2_with fail
          go_ret
          exact ⟨ret_bool (by simp), s5.2.2.2.2.2.2.2.2.2.2.2.2.2.2.2.2.2.2.2⟩
      · clear CP CQ
        have k2 : Kp w ((w.alloc (.cells #[.slice At nt ct, .slice Ak nk ck, .int .i64 a, .int .i64 b, .int .i64 c, .int .i64 d, .int .i64 e, .int .i64 W, .int .i64 H, x, r, y] 44)).alloc (.cells #[.int .i64 T, .int .i64 Z, .slice (some ⟨gu, ou, none⟩) N cp] 48)) := ((Kp.refl w).alloc _).alloc _
        have KA : Kp w (((w.alloc (.cells #[.slice At nt ct, .slice Ak nk ck, .int .i64 a, .int .i64 b, .int .i64 c, .int .i64 d, .int .i64 e, .int .i64 W, .int .i64 H, x, r, y] 44)).alloc (.cells #[.int .i64 T, .int .i64 Z, .slice (some ⟨gu, ou, none⟩) N cp] 48)).alloc (.cells #[.int .i64 sx, .int .i64 (j : Int), .int .i64 ax, .int .i64 tx] 87)) := k2.alloc _
        have a0 := k2.cell q0
        have a1 := k2.cell q1
        have a2 := k2.cell q2
        have a3 := k2.cell q3
        have s0 : cb12 (((w.alloc (.cells #[.slice At nt ct, .slice Ak nk ck, .int .i64 a, .int .i64 b, .int .i64 c, .int .i64 d, .int .i64 e, .int .i64 W, .int .i64 H, x, r, y] 44)).alloc (.cells #[.int .i64 T, .int .i64 Z, .slice (some ⟨gu, ou, none⟩) N cp] 48)).alloc (.cells #[.int .i64 sx, .int .i64 (j : Int), .int .i64 ax, .int .i64 tx] 87)) (w.heap.size) (.slice At nt ct) (.slice Ak nk ck) (.int .i64 a) (.int .i64 b) (.int .i64 c) (.int .i64 d) (.int .i64 e) (.int .i64 W) (.int .i64 H) (x) (r) (y) (cb3 (((w.alloc (.cells #[.slice At nt ct, .slice Ak nk ck, .int .i64 a, .int .i64 b, .int .i64 c, .int .i64 d, .int .i64 e, .int .i64 W, .int .i64 H, x, r, y] 44)).alloc (.cells #[.int .i64 T, .int .i64 Z, .slice (some ⟨gu, ou, none⟩) N cp] 48)).alloc (.cells #[.int .i64 sx, .int .i64 (j : Int), .int .i64 ax, .int .i64 tx] 87)) (w.heap.size + 1) (.int .i64 T) (.int .i64 Z) (.slice (some ⟨gu, ou, none⟩) N cp) (cb4 (((w.alloc (.cells #[.slice At nt ct, .slice Ak nk ck, .int .i64 a, .int .i64 b, .int .i64 c, .int .i64 d, .int .i64 e, .int .i64 W, .int .i64 H, x, r, y] 44)).alloc (.cells #[.int .i64 T, .int .i64 Z, .slice (some ⟨gu, ou, none⟩) N cp] 48)).alloc (.cells #[.int .i64 sx, .int .i64 (j : Int), .int .i64 ax, .int .i64 tx] 87)) (w.heap.size + 1 + 1) (.int .i64 sx) (.int .i64 (j : Int)) (.int .i64 ax) (.int .i64 tx) (Kp w (((w.alloc (.cells #[.slice At nt ct, .slice Ak nk ck, .int .i64 a, .int .i64 b, .int .i64 c, .int .i64 d, .int .i64 e, .int .i64 W, .int .i64 H, x, r, y] 44)).alloc (.cells #[.int .i64 T, .int .i64 Z, .slice (some ⟨gu, ou, none⟩) N cp] 48)).alloc (.cells #[.int .i64 sx, .int .i64 (j : Int), .int .i64 ax, .int .i64 tx] 87))))) := ⟨by simp [go_sem], by simp [go_sem], by simp [go_sem], by simp [go_sem], by simp [go_sem], by simp [go_sem], by simp [go_sem], by simp [go_sem], by simp [go_sem], by simp [go_sem], by simp [go_sem], by simp [go_sem], by simp [go_sem], by simp [go_sem], by simp [go_sem], by simp [go_sem], by simp [go_sem], by simp [go_sem], by simp [go_sem], KA⟩
        clear k2 q0 q1 q2 q3
        go_enter Tryz.func48, Tryz.ntmps48
        go_upto_region 2 with (fail)
        clear a0 a1 a2 a3
        generalize (((w.alloc (.cells #[.slice At nt ct, .slice Ak nk ck, .int .i64 a, .int .i64 b, .int .i64 c, .int .i64 d, .int .i64 e, .int .i64 W, .int .i64 H, x, r, y] 44)).alloc (.cells #[.int .i64 T, .int .i64 Z, .slice (some ⟨gu, ou, none⟩) N cp] 48)).alloc (.cells #[.int .i64 sx, .int .i64 (j : Int), .int .i64 ax, .int .i64 tx] 87)) = W0 at *
        go_wp2_with fail
        refine (CN.out _).mono ?_
        rintro e1 w1 ⟨rfl, k1⟩
        have s1a := keepe19 k1 s0
        clear s0 k1 CN
        go_upto_region 3 with (fail)
        have s1 := drewe19 s1a
        clear s1a
        refine wp_region_held_drew (S := (fun w' => cb12 w' (w.heap.size) (.slice At nt ct) (.slice Ak nk ck) (.int .i64 a) (.int .i64 b) (.int .i64 c) (.int .i64 d) (.int .i64 e) (.int .i64 W) (.int .i64 H) (x) (r) (y) (cb3 w' (w.heap.size + 1) (.int .i64 T) (.int .i64 Z) (.slice (some ⟨gu, ou, none⟩) N cp) (cb4 w' (w.heap.size + 1 + 1) (.int .i64 sx) (.int .i64 (j : Int)) (.int .i64 ax) (.int .i64 tx) (Kp w w'))))) (by kernel_rfl) ?_ (fun hHeld => ?_)
        · exact s1
        refine tk 0 ⟨some 23, _, _, _, _, _⟩ ?_ rfl (by kernel_rfl) (fun _ _ _ h => h) (by rfl) ?_ (by assumption) ?_
        rotate_left
        · intro w hSw; (try dsimp only at hSw); go_simp; (all_goals with_reducible rfl)
        simp only [Act.put, sA, sB, sC]
        refine tk 1 ⟨some 24, _, _, _, _, _⟩ ?_ rfl (by kernel_rfl) (fun _ _ _ h => h) (by rfl) ?_ (by assumption) ?_
        rotate_left
        · intro w hSw; (try dsimp only at hSw); go_simp; (all_goals with_reducible rfl)
        simp only [Act.put, sA, sB, sC]
        refine tk 2 ⟨some 25, _, _, _, _, _⟩ ?_ rfl (by kernel_rfl) (fun _ _ _ h => h) (by rfl) ?_ (by assumption) ?_
        rotate_left
        · intro w hSw; (try dsimp only at hSw); go_simp; (all_goals with_reducible rfl)
        simp only [Act.put, sA, sB, sC]
        refine tk 3 ⟨some 26, _, _, _, _, _⟩ ?_ rfl (by kernel_rfl) (fun _ _ _ h => h) (by rfl) ?_ (by assumption) ?_
        rotate_left
        · intro w hSw; (try dsimp only at hSw); go_simp; (all_goals with_reducible rfl)
        simp only [Act.put, sA, sB, sC]
        refine tk 4 ⟨some 27, _, _, _, _, _⟩ ?_ rfl (by kernel_rfl) (fun _ _ _ h => h) (by rfl) ?_ (by assumption) ?_
        rotate_left
        · intro w hSw; (try dsimp only at hSw); go_simp; (all_goals with_reducible rfl)
        simp only [Act.put, sA, sB, sC]
        refine tk 5 ⟨some 28, _, _, _, _, _⟩ ?_ rfl (by kernel_rfl) (fun _ _ _ h => h) (by rfl) ?_ (by assumption) ?_
        rotate_left
        · intro w hSw; (try dsimp only at hSw); go_simp; (all_goals with_reducible rfl)
        simp only [Act.put, sA, sB, sC]
        refine tk 6 ⟨some 29, _, _, _, _, _⟩ ?_ rfl (by kernel_rfl) (fun _ _ _ h => h) (by rfl) ?_ (by assumption) ?_
        rotate_left
        · intro w hSw; (try dsimp only at hSw); go_simp; (all_goals with_reducible rfl)
        simp only [Act.put, sA, sB, sC]
        refine wpAnyH_ready (rs := [7]) (by kernel_rfl) (by simp) ?_
        refine AllReadyH.cons (o := ⟨some 30, _, _, _, _, _⟩) rfl (fun K hK => ?_) AllReadyH.nil
        go_simp
        refine (CC.out _ (HB.out.keep hHeld.2.2.2.2.2.2.2.2.2.2.2.2.2.2.2.2.2.2.2)).mono ?_; rintro e2 w2 ⟨rfl, k2⟩; have s2 := keepe19 k2 hHeld
        go_wp2_with fail
        refine hK.out _ _ ?_ (fun hHeld => ?_)
        · (try dsimp only); (first | assumption | exact s3 | exact s2 | exact s1)
        clear hK K
        try simp only [Act.put, sA, sB, sC]
        refine tk 8 ⟨some 31, _, _, _, _, _⟩ ?_ rfl (by kernel_rfl) (fun _ _ _ h => h) (by rfl) ?_ (by assumption) ?_
        rotate_left
        · intro w hSw; (try dsimp only at hSw); go_simp; (all_goals with_reducible rfl)
        simp only [Act.put, sA, sB, sC]
        refine tk 9 ⟨some 32, _, _, _, _, _⟩ ?_ rfl (by kernel_rfl) (fun _ _ _ h => h) (by rfl) ?_ (by assumption) ?_
        rotate_left
        · intro w hSw; (try dsimp only at hSw); go_simp; (all_goals with_reducible rfl)
        simp only [Act.put, sA, sB, sC]
        refine tk 10 ⟨some 33, _, _, _, _, _⟩ ?_ rfl (by kernel_rfl) (fun _ _ _ h => h) (by rfl) ?_ (by assumption) ?_
        rotate_left
        · intro w hSw; (try dsimp only at hSw); go_simp; (all_goals with_reducible rfl)
        simp only [Act.put, sA, sB, sC]
        refine tk 11 ⟨some 34, _, _, _, _, _⟩ ?_ rfl (by kernel_rfl) (fun _ _ _ h => h) (by rfl) ?_ (by assumption) ?_
        rotate_left
        · intro w hSw; (try dsimp only at hSw); go_simp; (all_goals with_reducible rfl)
        simp only [Act.put, sA, sB, sC]
        refine tk 12 ⟨some 35, _, _, _, _, _⟩ ?_ rfl (by kernel_rfl) (fun _ _ _ h => h) (by rfl) ?_ (by assumption) ?_
        rotate_left
        · intro w hSw; (try dsimp only at hSw); go_simp; (all_goals with_reducible rfl)
        simp only [Act.put, sA, sB, sC]
        refine tk 14 ⟨some 37, _, _, _, _, _⟩ ?_ rfl (by kernel_rfl) (fun _ _ _ h => h) (by rfl) ?_ (by assumption) ?_
        rotate_left
        · intro w hSw; (try dsimp only at hSw); go_simp; (all_goals with_reducible rfl)
        simp only [Act.put, sA, sB, sC]
        refine tk 15 ⟨some 38, _, _, _, _, _⟩ ?_ rfl (by kernel_rfl) (fun _ _ _ h => h) (by rfl) ?_ (by assumption) ?_
        rotate_left
        · intro w hSw; (try dsimp only at hSw); go_simp; (all_goals with_reducible rfl)
        simp only [Act.put, sA, sB, sC]
        refine tk 16 ⟨some 39, _, _, _, _, _⟩ ?_ rfl (by kernel_rfl) (fun _ _ _ h => h) (by rfl) ?_ (by assumption) ?_
        rotate_left
        · intro w hSw; (try dsimp only at hSw); go_simp; (all_goals with_reducible rfl)
        simp only [Act.put, sA, sB, sC]
        refine wpAnyH_ready (rs := [13]) (by kernel_rfl) (by simp) ?_
        refine AllReadyH.cons (o := ⟨some 36, _, _, _, _, _⟩) rfl (fun K hK => ?_) AllReadyH.nil
        go_simp
        refine (CO.out _ (HS.out.keep hHeld.2.2.2.2.2.2.2.2.2.2.2.2.2.2.2.2.2.2.2)).mono ?_; rintro e3 w3 ⟨rfl, k3⟩; have s3 := keepe19 k3 hHeld
        go_wp2_with fail
        refine hK.out _ _ ?_ (fun hHeld => ?_)
        · (try dsimp only); (first | assumption | exact s3 | exact s2 | exact s1)
        clear hK K
        try simp only [Act.put, sA, sB, sC]
        refine tk 17 ⟨some 40, _, _, _, _, _⟩ ?_ rfl (by kernel_rfl) (fun _ _ _ h => h) (by rfl) ?_ (by assumption) ?_
        rotate_left
        · intro w hSw; (try dsimp only at hSw); go_simp; (all_goals with_reducible rfl)
        simp only [Act.put, sA, sB, sC]
        refine tk 18 ⟨some 41, _, _, _, _, _⟩ ?_ rfl (by kernel_rfl) (fun _ _ _ h => h) (by rfl) ?_ (by assumption) ?_
        rotate_left
        · intro w hSw; (try dsimp only at hSw); go_simp; (all_goals with_reducible rfl)
        simp only [Act.put, sA, sB, sC]
        refine wpAnyH_done (by kernel_rfl) ?_ _
        go_wp2_with fail
        go_ret
        exact ⟨ret_bool (by simp), hHeld.2.2.2.2.2.2.2.2.2.2.2.2.2.2.2.2.2.2.2⟩

set_option maxRecDepth 100000 in
set_option maxHeartbeats 4000000 in
theorem specStepAllowed_any (At Ak : Option Addr) (nt nk ct ck : Nat) (l : List Ter) (m : List Knd) (a b c d e W H : Int) (x r y : Value) (lt lr ld : List Int) (T Z : Int) (u : Value) (us : List Uni) (un i dd : Int) (w : World) (hB : BrdAt w At Ak nt nk l m x r y lt lr ld) (hS : StaAt w u us) :
    Calls Tryz.prog 20 #[bv (.slice At nt ct) (.slice Ak nk ck) a b c d e W H x r y, sv T Z u, .int .i64 un, .int .i64 i, .int .i64 dd] w fun e' w' => e' = .returned (.tuple #[.bool (((((brdOk ⟨l, m, a, b, c, d, e⟩ W H lt lr ld && staOk ⟨l, m, a, b, c, d, e⟩ W H lt T Z us) && inB un us.length) && onI W H i) && dirB dd) && alwB l m lt lr ld W H us (unN us un) i dd), .bool ((((brdOk ⟨l, m, a, b, c, d, e⟩ W H lt lr ld && staOk ⟨l, m, a, b, c, d, e⟩ W H lt T Z us) && inB un us.length) && onI W H i) && dirB dd)]) ∧ Kp w w' := by
  have KA : Kp w ((w.alloc (.cells #[.slice At nt ct, .slice Ak nk ck, .int .i64 a, .int .i64 b, .int .i64 c, .int .i64 d, .int .i64 e, .int .i64 W, .int .i64 H, x, r, y] 44)).alloc (.cells #[.int .i64 T, .int .i64 Z, u] 48)) := ((Kp.refl w).alloc _).alloc _
  have s0 : cb12 ((w.alloc (.cells #[.slice At nt ct, .slice Ak nk ck, .int .i64 a, .int .i64 b, .int .i64 c, .int .i64 d, .int .i64 e, .int .i64 W, .int .i64 H, x, r, y] 44)).alloc (.cells #[.int .i64 T, .int .i64 Z, u] 48)) (w.heap.size) (.slice At nt ct) (.slice Ak nk ck) (.int .i64 a) (.int .i64 b) (.int .i64 c) (.int .i64 d) (.int .i64 e) (.int .i64 W) (.int .i64 H) (x) (r) (y) (cb3 ((w.alloc (.cells #[.slice At nt ct, .slice Ak nk ck, .int .i64 a, .int .i64 b, .int .i64 c, .int .i64 d, .int .i64 e, .int .i64 W, .int .i64 H, x, r, y] 44)).alloc (.cells #[.int .i64 T, .int .i64 Z, u] 48)) (w.heap.size + 1) (.int .i64 T) (.int .i64 Z) (u) (Kp w ((w.alloc (.cells #[.slice At nt ct, .slice Ak nk ck, .int .i64 a, .int .i64 b, .int .i64 c, .int .i64 d, .int .i64 e, .int .i64 W, .int .i64 H, x, r, y] 44)).alloc (.cells #[.int .i64 T, .int .i64 Z, u] 48)))) := ⟨by simp [go_sem], by simp [go_sem], by simp [go_sem], by simp [go_sem], by simp [go_sem], by simp [go_sem], by simp [go_sem], by simp [go_sem], by simp [go_sem], by simp [go_sem], by simp [go_sem], by simp [go_sem], by simp [go_sem], by simp [go_sem], by simp [go_sem], KA⟩
  have HB := Lib.hid hB
  have HS := Lib.hid hS
  clear hB hS
  have CU := Lib.hid (fun (w : World) hB hS => sHas_any At Ak nt nk ct ck l m a b c d e W H x r y lt lr ld T Z u us un w hB hS)
  cases hg0 : (brdOk ⟨l, m, a, b, c, d, e⟩ W H lt lr ld && staOk ⟨l, m, a, b, c, d, e⟩ W H lt T Z us) && inB un us.length
  · rw [hg0] at CU
    clear hg0
    repeat (first | rw [Bool.true_and] | rw [Bool.and_true] | rw [Bool.false_and] | rw [Bool.and_false])
    go_enter Tryz.func20, Tryz.ntmps20
    go_wp2_with fail
    refine (CU.out _ (HB.out.keep s0.2.2.2.2.2.2.2.2.2.2.2.2.2.2.2) (HS.out.keep s0.2.2.2.2.2.2.2.2.2.2.2.2.2.2.2)).mono ?_
    rintro e1 w1 ⟨rfl, k1⟩
    have s1 := keepe15 k1 s0
    clear s0 k1
    go_wp2_with fail
    go_ret2
    exact ⟨rfl, s1.2.2.2.2.2.2.2.2.2.2.2.2.2.2.2⟩
  · rw [hg0] at CU
    have hok : brdOk ⟨l, m, a, b, c, d, e⟩ W H lt lr ld = true := by
      simp only [Bool.and_eq_true] at hg0
      exact hg0.1.1
    have hst : staOk ⟨l, m, a, b, c, d, e⟩ W H lt T Z us = true := by
      simp only [Bool.and_eq_true] at hg0
      exact hg0.1.2
    obtain ⟨p1, p2, p3, p4⟩ := mapOk_side (brdOk_map hok)
    have hlen := mapOk_len (brdOk_map hok)
    have hun : inB un us.length = true := by
      simp only [Bool.and_eq_true] at hg0
      exact hg0.2
    have CX : Hid (∀ w, BrdAt w At Ak nt nk l m x r y lt lr ld → StaAt w u us → Calls Tryz.prog 46 #[bv (.slice At nt ct) (.slice Ak nk ck) a b c d e W H x r y, sv T Z u, .int .i64 i] w fun e w' => e = .returned (.bool (onI W H i)) ∧ Kp w w') := Lib.hid fun w hB hS => by
      have h := sHex_any At Ak nt nk ct ck l m a b c d e W H x r y lt lr ld T Z u us i w hB hS
      rw [hok, hst, Bool.true_and, Bool.true_and] at h
      exact h
    cases hg1 : onI W H i
    · rw [hg1] at CX
      clear hg1 hok hst p1 p2 p3 p4 hlen hun hg0
      repeat (first | rw [Bool.true_and] | rw [Bool.and_true] | rw [Bool.false_and] | rw [Bool.and_false])
      go_enter Tryz.func20, Tryz.ntmps20
      go_wp2_with fail
      refine (CU.out _ (HB.out.keep s0.2.2.2.2.2.2.2.2.2.2.2.2.2.2.2) (HS.out.keep s0.2.2.2.2.2.2.2.2.2.2.2.2.2.2.2)).mono ?_
      rintro e1 w1 ⟨rfl, k1⟩
      have s1 := keepe15 k1 s0
      clear s0 k1
      go_wp2_with fail
      refine (CX.out _ (HB.out.keep s1.2.2.2.2.2.2.2.2.2.2.2.2.2.2.2) (HS.out.keep s1.2.2.2.2.2.2.2.2.2.2.2.2.2.2.2)).mono ?_
      rintro e2 w2 ⟨rfl, k2⟩
      have s2 := keepe15 k2 s1
      clear s1 k2
      go_wp2_with fail
      go_ret2
      exact ⟨rfl, s2.2.2.2.2.2.2.2.2.2.2.2.2.2.2.2⟩
    · rw [hg1] at CX
      have CD : Hid (∀ w, Calls Tryz.prog 47 #[.int .i64 dd, .int .i64 0, .int .i64 5] w fun e w' => e = .returned (.bool (dirB dd)) ∧ Kp w w') := Lib.hid fun w => (l1In_sp dd 0 5 w).mono fun _ _ h => ⟨h.1, h.2 ▸ Kp.refl _⟩
      cases hg2 : dirB dd
      · rw [hg2] at CD
        clear hg2 hok hst p1 p2 p3 p4 hlen hun hg0 hg1
        repeat (first | rw [Bool.true_and] | rw [Bool.and_true] | rw [Bool.false_and] | rw [Bool.and_false])
        go_enter Tryz.func20, Tryz.ntmps20
        go_wp2_with fail
        refine (CU.out _ (HB.out.keep s0.2.2.2.2.2.2.2.2.2.2.2.2.2.2.2) (HS.out.keep s0.2.2.2.2.2.2.2.2.2.2.2.2.2.2.2)).mono ?_
        rintro e1 w1 ⟨rfl, k1⟩
        have s1 := keepe15 k1 s0
        clear s0 k1
        go_wp2_with fail
        refine (CX.out _ (HB.out.keep s1.2.2.2.2.2.2.2.2.2.2.2.2.2.2.2) (HS.out.keep s1.2.2.2.2.2.2.2.2.2.2.2.2.2.2.2)).mono ?_
        rintro e2 w2 ⟨rfl, k2⟩
        have s2 := keepe15 k2 s1
        clear s1 k2
        go_wp2_with fail
        refine (CD.out _).mono ?_
        rintro e3 w3 ⟨rfl, k3⟩
        have s3 := keepe15 k3 s2
        clear s2 k3
        go_wp2_with fail
        go_ret2
        exact ⟨rfl, s3.2.2.2.2.2.2.2.2.2.2.2.2.2.2.2⟩
      · rw [hg2] at CD
        obtain ⟨k0, rfl, hk0, hk1⟩ := unN_of hun
        have CZ := Lib.hid (fun (w : World) hB hS => zAllowed_any At Ak nt nk ct ck l m a b c d e W H x r y lt lr ld T Z u us k0 (unN us (k0 : Int)).s (unN us (k0 : Int)).k (unN us (k0 : Int)).a (unN us (k0 : Int)).t i dd w hB hS hok hst hg1 hg2 hk1)
        have HR : Hid (alwB l m lt lr ld W H us (unN us (k0 : Int)) i dd = alwB l m lt lr ld W H us ⟨(unN us (k0 : Int)).s, (unN us (k0 : Int)).k, (unN us (k0 : Int)).a, (unN us (k0 : Int)).t⟩ i dd) := Lib.hid rfl
        rw [HR.out]
        generalize alwB l m lt lr ld W H us ⟨(unN us (k0 : Int)).s, (unN us (k0 : Int)).k, (unN us (k0 : Int)).a, (unN us (k0 : Int)).t⟩ i dd = R at CZ ⊢
        clear hok hst p1 p2 p3 p4 hlen hun hg0 hg1 hg2 hk0 hk1 HR
        repeat (first | rw [Bool.true_and] | rw [Bool.and_true] | rw [Bool.false_and] | rw [Bool.and_false])
        go_enter Tryz.func20, Tryz.ntmps20
        go_wp2_with fail
        refine (CU.out _ (HB.out.keep s0.2.2.2.2.2.2.2.2.2.2.2.2.2.2.2) (HS.out.keep s0.2.2.2.2.2.2.2.2.2.2.2.2.2.2.2)).mono ?_
        rintro e1 w1 ⟨rfl, k1⟩
        have s1 := keepe15 k1 s0
        clear s0 k1
        go_wp2_with fail
        refine (CX.out _ (HB.out.keep s1.2.2.2.2.2.2.2.2.2.2.2.2.2.2.2) (HS.out.keep s1.2.2.2.2.2.2.2.2.2.2.2.2.2.2.2)).mono ?_
        rintro e2 w2 ⟨rfl, k2⟩
        have s2 := keepe15 k2 s1
        clear s1 k2
        go_wp2_with fail
        refine (CD.out _).mono ?_
        rintro e3 w3 ⟨rfl, k3⟩
        have s3 := keepe15 k3 s2
        clear s2 k3
        go_wp2_with fail
        refine (CZ.out _ (HB.out.keep s3.2.2.2.2.2.2.2.2.2.2.2.2.2.2.2) (HS.out.keep s3.2.2.2.2.2.2.2.2.2.2.2.2.2.2.2)).mono ?_
        rintro e9 w9 ⟨rfl, k9⟩
        go_wp2_with fail
        go_ret2
        exact ⟨rfl, s3.2.2.2.2.2.2.2.2.2.2.2.2.2.2.2.trans k9⟩

end Go.Proofs.YtiojmbbdcccokaaGreatDoor
