/-
  Who controls a hex: ControlMap and CountControlled of the program. In memory of their own; nothing that was there is changed. The named variables hold what the program's text lays.
-/
import Derived.Test.YtncmjpgknckhjaaGreatDoorZnO
import Derived.Test.YtncmjpgknckhjaaGreatDoorQa
import Derived.Test.YtncmjpgknckhjaaGreatDoorQa
namespace Go.Proofs.YtncmjpgknckhjaaGreatDoor
open Go.RowKit

theorem keepe15 {W0 w w1 : World} {p0 p1 p2 p3 p4 p5 p6 p7 p8 p9 p10 p11 p12 p13 p14 : Addr} {v0 v1 v2 v3 v4 v5 v6 v7 v8 v9 v10 v11 v12 v13 v14 : Value} (k : Kp w w1) (h : w.cell? p0 = some v0 ∧ w.cell? p1 = some v1 ∧ w.cell? p2 = some v2 ∧ w.cell? p3 = some v3 ∧ w.cell? p4 = some v4 ∧ w.cell? p5 = some v5 ∧ w.cell? p6 = some v6 ∧ w.cell? p7 = some v7 ∧ w.cell? p8 = some v8 ∧ w.cell? p9 = some v9 ∧ w.cell? p10 = some v10 ∧ w.cell? p11 = some v11 ∧ w.cell? p12 = some v12 ∧ w.cell? p13 = some v13 ∧ w.cell? p14 = some v14 ∧ Kp W0 w) : w1.cell? p0 = some v0 ∧ w1.cell? p1 = some v1 ∧ w1.cell? p2 = some v2 ∧ w1.cell? p3 = some v3 ∧ w1.cell? p4 = some v4 ∧ w1.cell? p5 = some v5 ∧ w1.cell? p6 = some v6 ∧ w1.cell? p7 = some v7 ∧ w1.cell? p8 = some v8 ∧ w1.cell? p9 = some v9 ∧ w1.cell? p10 = some v10 ∧ w1.cell? p11 = some v11 ∧ w1.cell? p12 = some v12 ∧ w1.cell? p13 = some v13 ∧ w1.cell? p14 = some v14 ∧ Kp W0 w1 :=
  ⟨k.cell h.1, k.cell h.2.1, k.cell h.2.2.1, k.cell h.2.2.2.1, k.cell h.2.2.2.2.1, k.cell h.2.2.2.2.2.1, k.cell h.2.2.2.2.2.2.1, k.cell h.2.2.2.2.2.2.2.1, k.cell h.2.2.2.2.2.2.2.2.1, k.cell h.2.2.2.2.2.2.2.2.2.1, k.cell h.2.2.2.2.2.2.2.2.2.2.1, k.cell h.2.2.2.2.2.2.2.2.2.2.2.1, k.cell h.2.2.2.2.2.2.2.2.2.2.2.2.1, k.cell h.2.2.2.2.2.2.2.2.2.2.2.2.2.1, k.cell h.2.2.2.2.2.2.2.2.2.2.2.2.2.2.1, h.2.2.2.2.2.2.2.2.2.2.2.2.2.2.2.trans k⟩
theorem drewe15 {W0 w : World} {p0 p1 p2 p3 p4 p5 p6 p7 p8 p9 p10 p11 p12 p13 p14 : Addr} {v0 v1 v2 v3 v4 v5 v6 v7 v8 v9 v10 v11 v12 v13 v14 : Value} (h : w.cell? p0 = some v0 ∧ w.cell? p1 = some v1 ∧ w.cell? p2 = some v2 ∧ w.cell? p3 = some v3 ∧ w.cell? p4 = some v4 ∧ w.cell? p5 = some v5 ∧ w.cell? p6 = some v6 ∧ w.cell? p7 = some v7 ∧ w.cell? p8 = some v8 ∧ w.cell? p9 = some v9 ∧ w.cell? p10 = some v10 ∧ w.cell? p11 = some v11 ∧ w.cell? p12 = some v12 ∧ w.cell? p13 = some v13 ∧ w.cell? p14 = some v14 ∧ Kp W0 w) : w.drew.cell? p0 = some v0 ∧ w.drew.cell? p1 = some v1 ∧ w.drew.cell? p2 = some v2 ∧ w.drew.cell? p3 = some v3 ∧ w.drew.cell? p4 = some v4 ∧ w.drew.cell? p5 = some v5 ∧ w.drew.cell? p6 = some v6 ∧ w.drew.cell? p7 = some v7 ∧ w.drew.cell? p8 = some v8 ∧ w.drew.cell? p9 = some v9 ∧ w.drew.cell? p10 = some v10 ∧ w.drew.cell? p11 = some v11 ∧ w.drew.cell? p12 = some v12 ∧ w.drew.cell? p13 = some v13 ∧ w.drew.cell? p14 = some v14 ∧ Kp W0 w.drew :=
  ⟨h.1, h.2.1, h.2.2.1, h.2.2.2.1, h.2.2.2.2.1, h.2.2.2.2.2.1, h.2.2.2.2.2.2.1, h.2.2.2.2.2.2.2.1, h.2.2.2.2.2.2.2.2.1, h.2.2.2.2.2.2.2.2.2.1, h.2.2.2.2.2.2.2.2.2.2.1, h.2.2.2.2.2.2.2.2.2.2.2.1, h.2.2.2.2.2.2.2.2.2.2.2.2.1, h.2.2.2.2.2.2.2.2.2.2.2.2.2.1, h.2.2.2.2.2.2.2.2.2.2.2.2.2.2.1, h.2.2.2.2.2.2.2.2.2.2.2.2.2.2.2.drew⟩
theorem mkIntsZ (n : Nat) (hn : n ≤ 1048576) (w : World) :
    (Instr.makeSlice 26 (.int .i64 0) (.int .i64 (n : Int))).run Tryz.prog w = .ok (.slice (some ⟨w.heap.size, 0, none⟩) 0 n) (w.alloc (.cells (madeCells #[.int .i64 0] n) 3)) := by
  obtain ⟨i, hi, hz, hs, hb⟩ := info_parts infoInt
  have hr := run_make (P := Tryz.prog) w 26 3 i (.int .i64 0) Tryz.underlying26 hi hz .i64 .i64 0 (n : Int) (Int.le_refl _) (by omega) (by rw [hb]; omega) (by omega)
  rw [hs, Int.toNat_natCast, Nat.mul_one] at hr
  exact hr
theorem ownI_madeZ (w : World) (base n : Nat) (hb : base ≤ w.heap.size) (hn : n ≤ 1048576) : OwnI (w.alloc (.cells (madeCells #[.int .i64 0] n) 3)) base (.slice (some ⟨w.heap.size, 0, none⟩) 0 n) [] := by
  unfold OwnI
  exact World.ownsRow_made w _ n hb (by simp only [maxLen]; omega) (by rw [size_madeCells, Nat.mul_one])

set_option maxRecDepth 100000 in
set_option maxHeartbeats 4000000 in
theorem controlAt_any (At Ak : Option Addr) (nt nk ct ck : Nat) (l : List Ter) (m : List Knd) (a b c d e W H : Int) (x r y : Value) (lt lr ld : List Int) (T Z : Int) (u : Value) (us : List Uni) (n : Nat) (w : World) (ht : Tab w) (hB : BrdAt w At Ak nt nk l m x r y lt lr ld) (hS : StaAt w u us) (hok : brdOk ⟨l, m, a, b, c, d, e⟩ W H lt lr ld = true) (hst : staOk ⟨l, m, a, b, c, d, e⟩ W H lt T Z us = true) (hn : n < lt.length) :
    Calls Tryz.prog 131 #[bv (.slice At nt ct) (.slice Ak nk ck) a b c d e W H x r y, sv T Z u, .int .i64 (n : Int)] w fun e' w' => e' = .returned (.int .i64 (ctlI l m lt lr ld W us (n : Int))) ∧ Kp w w' := by
  have hlen := mapOk_len (brdOk_map hok)
  have hb := ownN_bd (us := us) (staOk_parts hst).2.2.1 (n : Int)
  have KA : Kp w ((w.alloc (.cells #[.slice At nt ct, .slice Ak nk ck, .int .i64 a, .int .i64 b, .int .i64 c, .int .i64 d, .int .i64 e, .int .i64 W, .int .i64 H, x, r, y] 44)).alloc (.cells #[.int .i64 T, .int .i64 Z, u] 48)) := ((Kp.refl w).alloc _).alloc _
  have s0 : cb12 ((w.alloc (.cells #[.slice At nt ct, .slice Ak nk ck, .int .i64 a, .int .i64 b, .int .i64 c, .int .i64 d, .int .i64 e, .int .i64 W, .int .i64 H, x, r, y] 44)).alloc (.cells #[.int .i64 T, .int .i64 Z, u] 48)) (w.heap.size) (.slice At nt ct) (.slice Ak nk ck) (.int .i64 a) (.int .i64 b) (.int .i64 c) (.int .i64 d) (.int .i64 e) (.int .i64 W) (.int .i64 H) (x) (r) (y) (cb3 ((w.alloc (.cells #[.slice At nt ct, .slice Ak nk ck, .int .i64 a, .int .i64 b, .int .i64 c, .int .i64 d, .int .i64 e, .int .i64 W, .int .i64 H, x, r, y] 44)).alloc (.cells #[.int .i64 T, .int .i64 Z, u] 48)) (w.heap.size + 1) (.int .i64 T) (.int .i64 Z) (u) (Kp w ((w.alloc (.cells #[.slice At nt ct, .slice Ak nk ck, .int .i64 a, .int .i64 b, .int .i64 c, .int .i64 d, .int .i64 e, .int .i64 W, .int .i64 H, x, r, y] 44)).alloc (.cells #[.int .i64 T, .int .i64 Z, u] 48)))) := ⟨by simp [go_sem], by simp [go_sem], by simp [go_sem], by simp [go_sem], by simp [go_sem], by simp [go_sem], by simp [go_sem], by simp [go_sem], by simp [go_sem], by simp [go_sem], by simp [go_sem], by simp [go_sem], by simp [go_sem], by simp [go_sem], by simp [go_sem], KA⟩
  have HT := Lib.hid ht
  have HB := Lib.hid hB
  have HS := Lib.hid hS
  have CO := Lib.hid (fun (w : World) hS => ownerAt_any T Z u us (n : Int) w hS hst (by omega))
  have CA := Lib.hid (fun (w : World) ht hB hS => has_zone At Ak nt nk ct ck l m a b c d e W H x r y lt lr ld T Z u us 0 (n : Int) w ht hB hS hok hst (onI_mk (by omega) (by omega)))
  have CB := Lib.hid (fun (w : World) ht hB hS => has_zone At Ak nt nk ct ck l m a b c d e W H x r y lt lr ld T Z u us 1 (n : Int) w ht hB hS hok hst (onI_mk (by omega) (by omega)))
  have HE : Hid (ctlI l m lt lr ld W us (n : Int) = ctlZ (ownN us n) (zonB l m lt lr ld W us 0 n) (zonB l m lt lr ld W us 1 n)) := Lib.hid rfl
  rw [HE.out]
  generalize ownN us (n : Int) = X at CO hb ⊢
  generalize zonB l m lt lr ld W us 0 (n : Int) = P at CA ⊢
  generalize zonB l m lt lr ld W us 1 (n : Int) = Q at CB ⊢
  clear ht hB hS hok hst hn hlen HE
  by_cases hx : 0 ≤ X
  · have hx1 : (X != -1) = true := by simp [bne]; omega
    rw [show ctlZ X P Q = X from if_pos hx]
    clear CA CB
    go_enter Tryz.func131, Tryz.ntmps131
    go_wp2_with fail
    refine (CO.out _ (HS.out.keep KA)).mono ?_
    rintro e1 w1 ⟨rfl, k1⟩
    go_wp2_with fail
    go_ret
    exact ⟨rfl, KA.trans k1⟩
  · obtain rfl : X = -1 := by omega
    clear hx hb
    go_enter Tryz.func131, Tryz.ntmps131
    go_wp2_with fail
    refine (CO.out _ (HS.out.keep KA)).mono ?_
    rintro e1 w1 ⟨rfl, k1⟩
    have s1 := keepe15 k1 s0
    clear s0 k1
    go_upto_region 4 with (fail)
    have sg := drewe15 s1
    clear s1
    refine wp_region_held_drew (S := (fun w' => cb12 w' (w.heap.size) (.slice At nt ct) (.slice Ak nk ck) (.int .i64 a) (.int .i64 b) (.int .i64 c) (.int .i64 d) (.int .i64 e) (.int .i64 W) (.int .i64 H) (x) (r) (y) (cb3 w' (w.heap.size + 1) (.int .i64 T) (.int .i64 Z) (u) (Kp w w')))) (by kernel_rfl) ?_ (fun hHeld => ?_)
    · assumption
    generalize w1.drew = V at *
    refine tk 0 ⟨some 16, _, _, _, _, _⟩ ?_ rfl (by kernel_rfl) (fun _ _ _ h => h) (by rfl) ?_ (by assumption) ?_
    rotate_left
    · intro w hSw; (try dsimp only at hSw); go_simp; (all_goals with_reducible rfl)
    try simp only [Act.put, sA, sB, sC]
    refine tk 1 ⟨some 17, _, _, _, _, _⟩ ?_ rfl (by kernel_rfl) (fun _ _ _ h => h) (by rfl) ?_ (by assumption) ?_
    rotate_left
    · intro w hSw; (try dsimp only at hSw); go_simp; (all_goals with_reducible rfl)
    try simp only [Act.put, sA, sB, sC]
    refine tk 2 ⟨some 18, _, _, _, _, _⟩ ?_ rfl (by kernel_rfl) (fun _ _ _ h => h) (by rfl) ?_ (by assumption) ?_
    rotate_left
    · intro w hSw; (try dsimp only at hSw); go_simp; (all_goals with_reducible rfl)
    try simp only [Act.put, sA, sB, sC]
    refine tk 3 ⟨some 19, _, _, _, _, _⟩ ?_ rfl (by kernel_rfl) (fun _ _ _ h => h) (by rfl) ?_ (by assumption) ?_
    rotate_left
    · intro w hSw; (try dsimp only at hSw); go_simp; (all_goals with_reducible rfl)
    try simp only [Act.put, sA, sB, sC]
    refine tk 5 ⟨some 21, _, _, _, _, _⟩ ?_ rfl (by kernel_rfl) (fun _ _ _ h => h) (by rfl) ?_ (by assumption) ?_
    rotate_left
    · intro w hSw; (try dsimp only at hSw); go_simp; (all_goals with_reducible rfl)
    try simp only [Act.put, sA, sB, sC]
    refine tk 6 ⟨some 22, _, _, _, _, _⟩ ?_ rfl (by kernel_rfl) (fun _ _ _ h => h) (by rfl) ?_ (by assumption) ?_
    rotate_left
    · intro w hSw; (try dsimp only at hSw); go_simp; (all_goals with_reducible rfl)
    try simp only [Act.put, sA, sB, sC]
    refine tk 7 ⟨some 23, _, _, _, _, _⟩ ?_ rfl (by kernel_rfl) (fun _ _ _ h => h) (by rfl) ?_ (by assumption) ?_
    rotate_left
    · intro w hSw; (try dsimp only at hSw); go_simp; (all_goals with_reducible rfl)
    try simp only [Act.put, sA, sB, sC]
    refine tk 8 ⟨some 24, _, _, _, _, _⟩ ?_ rfl (by kernel_rfl) (fun _ _ _ h => h) (by rfl) ?_ (by assumption) ?_
    rotate_left
    · intro w hSw; (try dsimp only at hSw); go_simp; (all_goals with_reducible rfl)
    try simp only [Act.put, sA, sB, sC]
    refine wpAnyH_ready (rs := [4]) (by kernel_rfl) (by simp) ?_
    refine (AllReadyH.cons (o := ⟨some 20, _, _, _, _, _⟩) rfl (fun K hK => ?_) AllReadyH.nil)
    go_simp
    refine (CA.out _ (HT.out.keep hHeld.2.2.2.2.2.2.2.2.2.2.2.2.2.2.2) (HB.out.keep hHeld.2.2.2.2.2.2.2.2.2.2.2.2.2.2.2) (HS.out.keep hHeld.2.2.2.2.2.2.2.2.2.2.2.2.2.2.2)).mono ?_
    rintro e3 w3 ⟨rfl, k3⟩
    have s3 := keepe15 k3 hHeld
    go_wp2_with fail
    refine hK.out _ _ ?_ (fun hHeld => ?_)
    · (try dsimp only); (first | assumption)
    clear hK K
    try simp only [Act.put, sA, sB, sC]
    refine wpAnyH_ready (rs := [9]) (by kernel_rfl) (by simp) ?_
    refine (AllReadyH.cons (o := ⟨some 25, _, _, _, _, _⟩) rfl (fun K hK => ?_) AllReadyH.nil)
    go_simp
    refine (CB.out _ (HT.out.keep hHeld.2.2.2.2.2.2.2.2.2.2.2.2.2.2.2) (HB.out.keep hHeld.2.2.2.2.2.2.2.2.2.2.2.2.2.2.2) (HS.out.keep hHeld.2.2.2.2.2.2.2.2.2.2.2.2.2.2.2)).mono ?_
    rintro e4 w4 ⟨rfl, k4⟩
    have s4 := keepe15 k4 hHeld
    go_wp2_with fail
    refine hK.out _ _ ?_ (fun hHeld => ?_)
    · (try dsimp only); (first | assumption)
    clear hK K
    try simp only [Act.put, sA, sB, sC]
    refine tk 10 ⟨some 8, _, _, _, _, _⟩ ?_ rfl (by kernel_rfl) (fun _ _ _ h => h) (by rfl) ?_ (by assumption) ?_
    rotate_left
    · intro w hSw; (try dsimp only at hSw); go_simp; (all_goals with_reducible rfl)
    try simp only [Act.put, sA, sB, sC]
    refine tk 11 ⟨some 9, _, _, _, _, _⟩ ?_ rfl (by kernel_rfl) (fun _ _ _ h => h) (by rfl) ?_ (by assumption) ?_
    rotate_left
    · intro w hSw; (try dsimp only at hSw); go_simp; (all_goals with_reducible rfl)
    try simp only [Act.put, sA, sB, sC]
    refine wpAnyH_done (by kernel_rfl) ?_ _
    have K4 := hHeld.2.2.2.2.2.2.2.2.2.2.2.2.2.2.2
    clear hHeld CO CA CB HB HS KA
    cases P
    · cases Q
      · go_wp2_with fail
        go_ret
        exact ⟨rfl, K4⟩
      · go_wp2_with fail
        go_ret
        exact ⟨rfl, K4⟩
    · cases Q
      · go_wp2_with fail
        go_ret
        exact ⟨rfl, K4⟩
      · go_wp2_with fail
        go_ret
        exact ⟨rfl, K4⟩

set_option maxRecDepth 100000 in
set_option maxHeartbeats 4000000 in
theorem controlMap_any (At Ak : Option Addr) (nt nk ct ck : Nat) (l : List Ter) (m : List Knd) (a b c d e W H : Int) (x r y : Value) (lt lr ld : List Int) (T Z : Int) (u : Value) (us : List Uni) (w : World) (ht : Tab w) (hB : BrdAt w At Ak nt nk l m x r y lt lr ld) (hS : StaAt w u us) (hok : brdOk ⟨l, m, a, b, c, d, e⟩ W H lt lr ld = true) (hst : staOk ⟨l, m, a, b, c, d, e⟩ W H lt T Z us = true) :
    Calls Tryz.prog 94 #[bv (.slice At nt ct) (.slice Ak nk ck) a b c d e W H x r y, sv T Z u] w fun e' w' => ∃ v, e' = .returned v ∧ OwnI w' w.heap.size v (ctlL l m lt lr ld W us) ∧ Kp w w' := by
  obtain ⟨p1, p2, p3, p4⟩ := mapOk_side (brdOk_map hok)
  have hlen := mapOk_len (brdOk_map hok)
  have hA := area_bd p1 p2 p3 p4
  have KA : Kp w ((w.alloc (.cells #[.slice At nt ct, .slice Ak nk ck, .int .i64 a, .int .i64 b, .int .i64 c, .int .i64 d, .int .i64 e, .int .i64 W, .int .i64 H, x, r, y] 44)).alloc (.cells #[.int .i64 T, .int .i64 Z, u] 48)) := ((Kp.refl w).alloc _).alloc _
  have s0 : cb12 ((w.alloc (.cells #[.slice At nt ct, .slice Ak nk ck, .int .i64 a, .int .i64 b, .int .i64 c, .int .i64 d, .int .i64 e, .int .i64 W, .int .i64 H, x, r, y] 44)).alloc (.cells #[.int .i64 T, .int .i64 Z, u] 48)) (w.heap.size) (.slice At nt ct) (.slice Ak nk ck) (.int .i64 a) (.int .i64 b) (.int .i64 c) (.int .i64 d) (.int .i64 e) (.int .i64 W) (.int .i64 H) (x) (r) (y) (cb3 ((w.alloc (.cells #[.slice At nt ct, .slice Ak nk ck, .int .i64 a, .int .i64 b, .int .i64 c, .int .i64 d, .int .i64 e, .int .i64 W, .int .i64 H, x, r, y] 44)).alloc (.cells #[.int .i64 T, .int .i64 Z, u] 48)) (w.heap.size + 1) (.int .i64 T) (.int .i64 Z) (u) (Kp w ((w.alloc (.cells #[.slice At nt ct, .slice Ak nk ck, .int .i64 a, .int .i64 b, .int .i64 c, .int .i64 d, .int .i64 e, .int .i64 W, .int .i64 H, x, r, y] 44)).alloc (.cells #[.int .i64 T, .int .i64 Z, u] 48)))) := ⟨by simp [go_sem], by simp [go_sem], by simp [go_sem], by simp [go_sem], by simp [go_sem], by simp [go_sem], by simp [go_sem], by simp [go_sem], by simp [go_sem], by simp [go_sem], by simp [go_sem], by simp [go_sem], by simp [go_sem], by simp [go_sem], by simp [go_sem], KA⟩
  have HT := Lib.hid ht
  have HB := Lib.hid hB
  have HS := Lib.hid hS
  have CZ : Hid (∀ j : Nat, j < lt.length → ∀ w, Tab w → BrdAt w At Ak nt nk l m x r y lt lr ld → StaAt w u us → Calls Tryz.prog 131 #[bv (.slice At nt ct) (.slice Ak nk ck) a b c d e W H x r y, sv T Z u, .int .i64 (j : Int)] w fun e' w' => e' = .returned (.int .i64 (ctlI l m lt lr ld W us j)) ∧ Kp w w') := Lib.hid fun j hj w ht hB hS => controlAt_any At Ak nt nk ct ck l m a b c d e W H x r y lt lr ld T Z u us j w ht hB hS hok hst hj
  have CS : Hid (∀ w, Calls Tryz.prog 105 #[mp W H x r y] w fun e w' => e = .returned (.int .i64 (lt.length : Int)) ∧ Kp w w') := Lib.hid fun w => by
    have h := countHexes_any W H x r y w p1 p2 p3 p4
    rw [← hlen] at h
    exact h
  have hn1 : lt.length ≤ 100 := by omega
  have HL : Hid (ctlL l m lt lr ld W us = tabN (fun j => ctlI l m lt lr ld W us j) lt.length) := Lib.hid rfl
  rw [HL.out]
  have HF : Hid (∀ j : Nat, ctlI l m lt lr ld W us (j : Int) = (fun j : Nat => ctlI l m lt lr ld W us j) j) := Lib.hid fun j => rfl
  generalize (fun j : Nat => ctlI l m lt lr ld W us j) = F at HF ⊢
  generalize hn : lt.length = n at CZ CS hn1 ⊢
  obtain ⟨j0, hj0, hz0, hs0, hb0⟩ := info_parts infoInt
  clear ht hB hS hok hst hlen hA HL hn p1 p2 p3 p4
  go_enter Tryz.func94, Tryz.ntmps94
  go_wp2_with fail
  refine (CS.out _).mono ?_
  rintro e1 w1 ⟨rfl, k1⟩
  have s1 := keepe15 k1 s0
  have hmk := mkIntsZ n (by omega) w1
  have HM := Lib.hid (ownI_madeZ w1 w1.heap.size n (Nat.le_refl _) (by omega))
  have KM : Kp w1 (w1.alloc (.cells (madeCells #[.int .i64 0] n) 3)) := (Kp.refl w1).alloc _
  have sM := keepe15 KM s1
  clear s0 k1
  go_upto_region 2 with (fail)
  clear hmk
  generalize (w1.alloc (.cells (madeCells #[.int .i64 0] n) 3)) = WM at *
  go_wp2_with fail
  refine (CS.out _).mono ?_
  rintro e2 w2 ⟨rfl, k2⟩
  have HM2 := Lib.hid (HM.out.keep k2)
  have K2 := KM.trans k2
  clear sM HM k2 KM
  go_wp2_with fail
  go_loopw [5, 6, 14] (fun v _ sq wx => ∃ q : Nat, q ≤ n ∧ sq = .int .i64 q ∧ Hid (OwnI wx w1.heap.size v (tabN F q)) ∧ Kp w1 wx) (fun _ _ sq _ => n - (intOf sq).toNat)
  case atStart => exact ⟨0, by omega, rfl, HM2, K2⟩
  case round =>
    clear HM2 K2
    obtain ⟨q, hqn, rfl, HO, kr⟩ := hrel
    have sr := keepe15 kr s1
    by_cases hlt : q < n
    · have hlt' : (q : Int) < n := by omega
      have CQ := Lib.hid (CZ.out q hlt)
      rw [HF.out q] at CQ
      have HS2 : Hid (tabN F (q + 1) = tabN F q ++ [F q]) := Lib.hid rfl
      have hln : Hid ((tabN F q).length ≤ q) := Lib.hid (Nat.le_of_eq (tabN_len F q))
      generalize F q = X at CQ HS2
      go_wp2_with fail
      refine (CQ.out _ (HT.out.keep sr.2.2.2.2.2.2.2.2.2.2.2.2.2.2.2) (HB.out.keep sr.2.2.2.2.2.2.2.2.2.2.2.2.2.2.2) (HS.out.keep sr.2.2.2.2.2.2.2.2.2.2.2.2.2.2.2)).mono ?_
      rintro e3 w3 ⟨rfl, k3⟩
      have k30 := kr.trans k3
      have HO3 := Lib.hid (HO.out.keep k3)
      clear sr k3 HO kr
      go_wp2_with (at_builtin; refine wpList_append_own_at _ rfl (.tmp 17) (.tmp 22) 26 rfl (w1.heap.size) 3 j0 (.int .i64 0) 1 8 Tryz.underlying26 hj0 hz0 hs0 hb0 rfl (by decide) _ (tabN F q).length (cellsI (tabN F q)) rfl (World.ownsRow.alloc HO3.out _) ⟨w3.heap.size, 0, none⟩ 1 1 [.int .i64 X] rfl rfl (one_cell _ _ _) (by simp [Value.oneCell']) (by have := hln.out; simp only [maxLen]; omega) (by have := hln.out; omega) (by have h5 := k30.size; simp; omega) ?_; intro v' w3 hown2 hgrow2 hnil2 hat2; clear hnil2 hat2; have K5 : Kp w1 w3 := (k30.alloc _).grown hgrow2 (fun k e => by have := (World.ownsRow.lt HO3.out k e).1; omega); have O3 := Lib.hid (OwnI.snoc (x := X) hown2); clear hown2 hgrow2)
      go_roundw
      case rel => exact ⟨q + 1, by omega, by go_num, Lib.hid (by rw [HS2.out]; exact O3.out), K5⟩
      case measure => simp [intOf]; omega
    · obtain rfl : q = n := by omega
      go_wp2_with fail
      go_ret
      exact ⟨_, rfl, HO.out.base s1.2.2.2.2.2.2.2.2.2.2.2.2.2.2.2.size, sr.2.2.2.2.2.2.2.2.2.2.2.2.2.2.2⟩

set_option maxRecDepth 100000 in
set_option maxHeartbeats 4000000 in
theorem controlMapP_any (At Ak : Option Addr) (nt nk ct ck : Nat) (l : List Ter) (m : List Knd) (a b c d e W H : Int) (x r y : Value) (lt lr ld : List Int) (T Z : Int) (u : Value) (us : List Uni) (w : World) (hs : Spans w) (ht : Tab w) (hu : SpU w) (hB : BrdAt w At Ak nt nk l m x r y lt lr ld) (hS : StaAt w u us) :
    Calls Tryz.prog 47 #[bv (.slice At nt ct) (.slice Ak nk ck) a b c d e W H x r y, sv T Z u] w (ListPostI (brdOk ⟨l, m, a, b, c, d, e⟩ W H lt lr ld && staOk ⟨l, m, a, b, c, d, e⟩ W H lt T Z us) (ctlL l m lt lr ld W us) w) := by
  have KA : Kp w ((w.alloc (.cells #[.slice At nt ct, .slice Ak nk ck, .int .i64 a, .int .i64 b, .int .i64 c, .int .i64 d, .int .i64 e, .int .i64 W, .int .i64 H, x, r, y] 44)).alloc (.cells #[.int .i64 T, .int .i64 Z, u] 48)) := ((Kp.refl w).alloc _).alloc _
  have s0 : cb12 ((w.alloc (.cells #[.slice At nt ct, .slice Ak nk ck, .int .i64 a, .int .i64 b, .int .i64 c, .int .i64 d, .int .i64 e, .int .i64 W, .int .i64 H, x, r, y] 44)).alloc (.cells #[.int .i64 T, .int .i64 Z, u] 48)) (w.heap.size) (.slice At nt ct) (.slice Ak nk ck) (.int .i64 a) (.int .i64 b) (.int .i64 c) (.int .i64 d) (.int .i64 e) (.int .i64 W) (.int .i64 H) (x) (r) (y) (cb3 ((w.alloc (.cells #[.slice At nt ct, .slice Ak nk ck, .int .i64 a, .int .i64 b, .int .i64 c, .int .i64 d, .int .i64 e, .int .i64 W, .int .i64 H, x, r, y] 44)).alloc (.cells #[.int .i64 T, .int .i64 Z, u] 48)) (w.heap.size + 1) (.int .i64 T) (.int .i64 Z) (u) (Kp w ((w.alloc (.cells #[.slice At nt ct, .slice Ak nk ck, .int .i64 a, .int .i64 b, .int .i64 c, .int .i64 d, .int .i64 e, .int .i64 W, .int .i64 H, x, r, y] 44)).alloc (.cells #[.int .i64 T, .int .i64 Z, u] 48)))) := ⟨by simp [go_sem], by simp [go_sem], by simp [go_sem], by simp [go_sem], by simp [go_sem], by simp [go_sem], by simp [go_sem], by simp [go_sem], by simp [go_sem], by simp [go_sem], by simp [go_sem], by simp [go_sem], by simp [go_sem], by simp [go_sem], by simp [go_sem], KA⟩
  have HSP := Lib.hid hs
  have HT := Lib.hid ht
  have HU := Lib.hid hu
  have HB := Lib.hid hB
  have HS := Lib.hid hS
  clear hs ht hu hB hS
  have C0 := Lib.hid (fun (w : World) hs ht hu hB hS => isStateOn_any At Ak nt nk ct ck l m a b c d e W H x r y lt lr ld T Z u us w hs ht hu hB hS)
  cases hg0 : brdOk ⟨l, m, a, b, c, d, e⟩ W H lt lr ld && staOk ⟨l, m, a, b, c, d, e⟩ W H lt T Z us
  · rw [hg0] at C0
    clear hg0
    repeat (first | rw [Bool.true_and] | rw [Bool.and_true] | rw [Bool.false_and] | rw [Bool.and_false])
    go_enter Tryz.func47, Tryz.ntmps47
    go_wp2_with fail
    refine (C0.out _ (HSP.out.keep s0.2.2.2.2.2.2.2.2.2.2.2.2.2.2.2) (HT.out.keep s0.2.2.2.2.2.2.2.2.2.2.2.2.2.2.2) (HU.out.keep s0.2.2.2.2.2.2.2.2.2.2.2.2.2.2.2) (HB.out.keep s0.2.2.2.2.2.2.2.2.2.2.2.2.2.2.2) (HS.out.keep s0.2.2.2.2.2.2.2.2.2.2.2.2.2.2.2)).mono ?_
    rintro e1 w1 ⟨rfl, k1⟩
    have s1 := keepe15 k1 s0
    clear s0 k1
    go_wp2_with fail
    go_ret2
    exact ListPostI.no (s1.2.2.2.2.2.2.2.2.2.2.2.2.2.2.2)
  · rw [hg0] at C0
    have hok : brdOk ⟨l, m, a, b, c, d, e⟩ W H lt lr ld = true := by
      simp only [Bool.and_eq_true] at hg0
      exact hg0.1
    have hst : staOk ⟨l, m, a, b, c, d, e⟩ W H lt T Z us = true := by
      simp only [Bool.and_eq_true] at hg0
      exact hg0.2
    obtain ⟨p1, p2, p3, p4⟩ := mapOk_side (brdOk_map hok)
    have hlen := mapOk_len (brdOk_map hok)
    have CZ := Lib.hid (fun (w : World) ht hB hS => controlMap_any At Ak nt nk ct ck l m a b c d e W H x r y lt lr ld T Z u us w ht hB hS hok hst)
    generalize ctlL l m lt lr ld W us = R at CZ ⊢
    clear hok hst p1 p2 p3 p4 hlen hg0
    repeat (first | rw [Bool.true_and] | rw [Bool.and_true] | rw [Bool.false_and] | rw [Bool.and_false])
    go_enter Tryz.func47, Tryz.ntmps47
    go_wp2_with fail
    refine (C0.out _ (HSP.out.keep s0.2.2.2.2.2.2.2.2.2.2.2.2.2.2.2) (HT.out.keep s0.2.2.2.2.2.2.2.2.2.2.2.2.2.2.2) (HU.out.keep s0.2.2.2.2.2.2.2.2.2.2.2.2.2.2.2) (HB.out.keep s0.2.2.2.2.2.2.2.2.2.2.2.2.2.2.2) (HS.out.keep s0.2.2.2.2.2.2.2.2.2.2.2.2.2.2.2)).mono ?_
    rintro e1 w1 ⟨rfl, k1⟩
    have s1 := keepe15 k1 s0
    clear s0 k1
    go_wp2_with fail
    refine (CZ.out _ (HT.out.keep s1.2.2.2.2.2.2.2.2.2.2.2.2.2.2.2) (HB.out.keep s1.2.2.2.2.2.2.2.2.2.2.2.2.2.2.2) (HS.out.keep s1.2.2.2.2.2.2.2.2.2.2.2.2.2.2.2)).mono ?_
    rintro e9 w9 ⟨v9, rfl, o9, k9⟩
    have hz9 := s1.2.2.2.2.2.2.2.2.2.2.2.2.2.2.2.size
    go_wp2_with fail
    go_ret2
    exact ⟨_, rfl, o9.base hz9, s1.2.2.2.2.2.2.2.2.2.2.2.2.2.2.2.trans k9⟩

set_option maxRecDepth 100000 in
set_option maxHeartbeats 4000000 in
theorem countOf_any (v : Value) (L : List Int) (z : Int) (w : World) (h : RdI w v L) (hl : L.length ≤ 1048576) :
    Calls Tryz.prog 95 #[v, .int .i64 z] w fun e w' => e = .returned (.int .i64 (occI z L)) ∧ w = w' := by
  obtain ⟨A, cp, rfl, h⟩ := h
  have HA := Lib.hid h
  generalize hn : L.length = n at *
  have HN := Lib.hid hn
  clear hn h
  go_enter Tryz.func95, Tryz.ntmps95
  go_wp2_with fail
  go_loop [5, 7, 10] (fun c _ i => ∃ (q : Nat) (C : Int), q ≤ n ∧ c = .int .i64 C ∧ i = .int .i64 q ∧ Hid (occI z (L.take q) = C) ∧ (0 ≤ C ∧ C ≤ q)) (fun _ _ i => n - (intOf i).toNat)
  case atStart => exact ⟨0, 0, by omega, rfl, rfl, Lib.hid rfl, by omega, by omega⟩
  case round =>
    obtain ⟨q, C, hqn, rfl, rfl, HC, hc0, hc1⟩ := hrel
    by_cases hlt : q < n
    · obtain ⟨g', off, rfl, hc⟩ := HA.out (by omega)
      obtain ⟨y, hy⟩ : ∃ y, L[q]? = some y := ⟨L[q]'(by have := HN.out; omega), List.getElem?_eq_getElem _⟩
      have a0 := hc q y hy
      have HX := Lib.hid (occI_take (x := z) hy)
      clear hc hy
      have hlt' : (q : Int) < n := by omega
      by_cases he : y = z
      · subst he
        go_wp2_with fail
        go_round
        case rel => exact ⟨q + 1, C + 1, by omega, rfl, by go_num, Lib.hid (by rw [HX.out, HC.out, if_pos rfl]), by omega, by omega⟩
        case measure => simp [intOf]; omega
      · have he2 : (y == z) = false := by simpa using he
        go_wp2_with fail
        go_round
        case rel => exact ⟨q + 1, C, by omega, rfl, by go_num, Lib.hid (by rw [HX.out, HC.out, if_neg he]; omega), by omega, by omega⟩
        case measure => simp [intOf]; omega
    · obtain rfl : q = n := by omega
      have HR : Hid (occI z L = C) := Lib.hid (by
        have := HC.out
        rw [List.take_of_length_le (by have := HN.out; omega)] at this
        exact this)
      go_wp2_with fail
      go_ret
      exact ⟨ret_int HR.out.symm, rfl⟩

set_option maxRecDepth 100000 in
set_option maxHeartbeats 4000000 in
theorem countControlledP_any (At Ak : Option Addr) (nt nk ct ck : Nat) (l : List Ter) (m : List Knd) (a b c d e W H : Int) (x r y : Value) (lt lr ld : List Int) (T Z : Int) (u : Value) (us : List Uni) (w : World) (hs : Spans w) (ht : Tab w) (hu : SpU w) (hB : BrdAt w At Ak nt nk l m x r y lt lr ld) (hS : StaAt w u us) :
    Calls Tryz.prog 49 #[bv (.slice At nt ct) (.slice Ak nk ck) a b c d e W H x r y, sv T Z u] w (ListPostI (brdOk ⟨l, m, a, b, c, d, e⟩ W H lt lr ld && staOk ⟨l, m, a, b, c, d, e⟩ W H lt T Z us) (ctlC (ctlL l m lt lr ld W us)) w) := by
  have KA : Kp w ((w.alloc (.cells #[.slice At nt ct, .slice Ak nk ck, .int .i64 a, .int .i64 b, .int .i64 c, .int .i64 d, .int .i64 e, .int .i64 W, .int .i64 H, x, r, y] 44)).alloc (.cells #[.int .i64 T, .int .i64 Z, u] 48)) := ((Kp.refl w).alloc _).alloc _
  have s0 : cb12 ((w.alloc (.cells #[.slice At nt ct, .slice Ak nk ck, .int .i64 a, .int .i64 b, .int .i64 c, .int .i64 d, .int .i64 e, .int .i64 W, .int .i64 H, x, r, y] 44)).alloc (.cells #[.int .i64 T, .int .i64 Z, u] 48)) (w.heap.size) (.slice At nt ct) (.slice Ak nk ck) (.int .i64 a) (.int .i64 b) (.int .i64 c) (.int .i64 d) (.int .i64 e) (.int .i64 W) (.int .i64 H) (x) (r) (y) (cb3 ((w.alloc (.cells #[.slice At nt ct, .slice Ak nk ck, .int .i64 a, .int .i64 b, .int .i64 c, .int .i64 d, .int .i64 e, .int .i64 W, .int .i64 H, x, r, y] 44)).alloc (.cells #[.int .i64 T, .int .i64 Z, u] 48)) (w.heap.size + 1) (.int .i64 T) (.int .i64 Z) (u) (Kp w ((w.alloc (.cells #[.slice At nt ct, .slice Ak nk ck, .int .i64 a, .int .i64 b, .int .i64 c, .int .i64 d, .int .i64 e, .int .i64 W, .int .i64 H, x, r, y] 44)).alloc (.cells #[.int .i64 T, .int .i64 Z, u] 48)))) := ⟨by simp [go_sem], by simp [go_sem], by simp [go_sem], by simp [go_sem], by simp [go_sem], by simp [go_sem], by simp [go_sem], by simp [go_sem], by simp [go_sem], by simp [go_sem], by simp [go_sem], by simp [go_sem], by simp [go_sem], by simp [go_sem], by simp [go_sem], KA⟩
  have HSP := Lib.hid hs
  have HT := Lib.hid ht
  have HU := Lib.hid hu
  have HB := Lib.hid hB
  have HS := Lib.hid hS
  clear hs ht hu hB hS
  have C0 := Lib.hid (fun (w : World) hs ht hu hB hS => isStateOn_any At Ak nt nk ct ck l m a b c d e W H x r y lt lr ld T Z u us w hs ht hu hB hS)
  cases hg0 : brdOk ⟨l, m, a, b, c, d, e⟩ W H lt lr ld && staOk ⟨l, m, a, b, c, d, e⟩ W H lt T Z us
  · rw [hg0] at C0
    clear hg0
    repeat (first | rw [Bool.true_and] | rw [Bool.and_true] | rw [Bool.false_and] | rw [Bool.and_false])
    go_enter Tryz.func49, Tryz.ntmps49
    go_wp2_with fail
    refine (C0.out _ (HSP.out.keep s0.2.2.2.2.2.2.2.2.2.2.2.2.2.2.2) (HT.out.keep s0.2.2.2.2.2.2.2.2.2.2.2.2.2.2.2) (HU.out.keep s0.2.2.2.2.2.2.2.2.2.2.2.2.2.2.2) (HB.out.keep s0.2.2.2.2.2.2.2.2.2.2.2.2.2.2.2) (HS.out.keep s0.2.2.2.2.2.2.2.2.2.2.2.2.2.2.2)).mono ?_
    rintro e1 w1 ⟨rfl, k1⟩
    have s1 := keepe15 k1 s0
    clear s0 k1
    go_wp2_with fail
    go_ret2
    exact ListPostI.no (s1.2.2.2.2.2.2.2.2.2.2.2.2.2.2.2)
  · rw [hg0] at C0
    have hok : brdOk ⟨l, m, a, b, c, d, e⟩ W H lt lr ld = true := by
      simp only [Bool.and_eq_true] at hg0
      exact hg0.1
    have hst : staOk ⟨l, m, a, b, c, d, e⟩ W H lt T Z us = true := by
      simp only [Bool.and_eq_true] at hg0
      exact hg0.2
    obtain ⟨p1, p2, p3, p4⟩ := mapOk_side (brdOk_map hok)
    have hlen := mapOk_len (brdOk_map hok)
    have CZ := Lib.hid (fun (w : World) ht hB hS => controlMap_any At Ak nt nk ct ck l m a b c d e W H x r y lt lr ld T Z u us w ht hB hS hok hst)
    have hll : (ctlL l m lt lr ld W us).length ≤ 1048576 := by
      have hA := area_bd p1 p2 p3 p4
      have := tabN_len (fun j => ctlI l m lt lr ld W us j) lt.length
      unfold ctlL
      omega
    generalize ctlL l m lt lr ld W us = R at CZ hll ⊢
    have HL : Hid (ctlC R = ([0, 1, 2, -1] : List Int).map fun z => occI z R) := Lib.hid rfl
    rw [HL.out]
    obtain ⟨j0, hj0, hz0, hs0, hb0⟩ := info_parts infoInt
    clear HL hok hst p1 p2 p3 p4 hlen hg0
    repeat (first | rw [Bool.true_and] | rw [Bool.and_true] | rw [Bool.false_and] | rw [Bool.and_false])
    go_enter Tryz.func49, Tryz.ntmps49
    go_wp2_with fail
    refine (C0.out _ (HSP.out.keep s0.2.2.2.2.2.2.2.2.2.2.2.2.2.2.2) (HT.out.keep s0.2.2.2.2.2.2.2.2.2.2.2.2.2.2.2) (HU.out.keep s0.2.2.2.2.2.2.2.2.2.2.2.2.2.2.2) (HB.out.keep s0.2.2.2.2.2.2.2.2.2.2.2.2.2.2.2) (HS.out.keep s0.2.2.2.2.2.2.2.2.2.2.2.2.2.2.2)).mono ?_
    rintro e1 w1 ⟨rfl, k1⟩
    have s1 := keepe15 k1 s0
    clear s0 k1
    go_wp2_with fail
    refine (CZ.out _ (HT.out.keep s1.2.2.2.2.2.2.2.2.2.2.2.2.2.2.2) (HB.out.keep s1.2.2.2.2.2.2.2.2.2.2.2.2.2.2.2) (HS.out.keep s1.2.2.2.2.2.2.2.2.2.2.2.2.2.2.2)).mono ?_
    rintro e2 w2 ⟨v2, rfl, o2, k2⟩
    have K2 := s1.2.2.2.2.2.2.2.2.2.2.2.2.2.2.2.trans k2
    obtain ⟨A2, c2, rfl⟩ := o2.slice
    have R2 := Lib.hid o2.rd
    clear s1 k2 o2
    go_wp2_with fail
    have k3 : Kp w2 (w2.alloc (.cells #[.int .i64 0, .int .i64 1, .int .i64 2, .int .i64 (-1)] 3)) := (Kp.refl w2).alloc _
    have q4 : ∀ (i : Nat) (z : Int), ([0, 1, 2, -1] : List Int)[i]? = some z → (w2.alloc (.cells #[.int .i64 0, .int .i64 1, .int .i64 2, .int .i64 (-1)] 3)).cell? ⟨w2.heap.size, i, none⟩ = some (.int .i64 z) := fun i z h => by
      match i, h with
      | 0, h => simp only [List.getElem?_cons_zero, Option.some.injEq] at h; subst h; simp [go_sem]
      | 1, h => simp only [List.getElem?_cons_zero, List.getElem?_cons_succ, Option.some.injEq] at h; subst h; simp [go_sem]
      | 2, h => simp only [List.getElem?_cons_zero, List.getElem?_cons_succ, Option.some.injEq] at h; subst h; simp [go_sem]
      | 3, h => simp only [List.getElem?_cons_zero, List.getElem?_cons_succ, Option.some.injEq] at h; subst h; simp [go_sem]
      | (i + 4), h => simp at h
    have Q4 := Lib.hid q4
    have R3 := Lib.hid (R2.out.keep k3)
    have K3 := K2.trans k3
    have hz3 : w2.heap.size < (w2.alloc (.cells #[.int .i64 0, .int .i64 1, .int .i64 2, .int .i64 (-1)] 3)).heap.size := by simp
    clear q4 R2 k3
    generalize w2.alloc (.cells #[.int .i64 0, .int .i64 1, .int .i64 2, .int .i64 (-1)] 3) = W3 at *
    go_loopw [7, 9, 19] (fun v _ sq wx => ∃ q : Nat, q ≤ 4 ∧ sq = .int .i64 q ∧ OwnI wx W3.heap.size v ((([0, 1, 2, -1] : List Int).take q).map fun z => occI z R) ∧ Kp W3 wx) (fun _ _ sq _ => 4 - (intOf sq).toNat)
    case atStart => exact ⟨0, by omega, rfl, OwnI.nil _ _, Kp.refl _⟩
    case round =>
      obtain ⟨q, hqn, rfl, ho, kr⟩ := hrel
      by_cases hlt : q < 4
      · have hlt' : (q : Int) < 4 := by omega
        obtain ⟨z, hz⟩ : ∃ z, ([0, 1, 2, -1] : List Int)[q]? = some z := ⟨_, List.getElem?_eq_getElem (by simpa using hlt)⟩
        have a0 := kr.cell (Q4.out q z hz)
        have HS2 : Hid ((([0, 1, 2, -1] : List Int).take (q + 1)).map (fun z => occI z R) = (([0, 1, 2, -1] : List Int).take q).map (fun z => occI z R) ++ [occI z R]) := Lib.hid (by rw [List.take_add_one, hz, List.map_append]; rfl)
        have CQ := Lib.hid (countOf_any _ R z wr (R3.out.keep kr) hll)
        have HO := Lib.hid ho
        have hln : Hid (((([0, 1, 2, -1] : List Int).take q).map fun z => occI z R).length ≤ q) := Lib.hid (by rw [List.length_map, List.length_take]; omega)
        generalize (([0, 1, 2, -1] : List Int).take q).map (fun z => occI z R) = LL at HO HS2 hln
        generalize occI z R = X at CQ HS2
        clear ho hz
        go_wp2_with fail
        refine CQ.out.mono ?_
        rintro e3 w3' ⟨rfl, rfl⟩
        go_wp2_with (at_builtin; refine wpList_append_own_at _ rfl (.tmp 23) (.tmp 27) 26 rfl (W3.heap.size) 3 j0 (.int .i64 0) 1 8 Tryz.underlying26 hj0 hz0 hs0 hb0 rfl (by decide) _ (LL).length (cellsI (LL)) rfl (World.ownsRow.alloc HO.out _) ⟨wr.heap.size, 0, none⟩ 1 1 [.int .i64 X] rfl rfl (one_cell _ _ _) (by simp [Value.oneCell']) (by have := hln.out; simp only [maxLen]; omega) (by have := hln.out; omega) (by have h5 := kr.size; simp; omega) ?_; intro v' w3 hown2 hgrow2 hnil2 hat2; clear hnil2 hat2; have K5 : Kp W3 w3 := (kr.alloc _).grown hgrow2 (fun k e => by have := (World.ownsRow.lt HO.out k e).1; omega); have O3 := Lib.hid (OwnI.snoc (x := X) hown2); clear hown2 hgrow2)
        go_roundw
        case rel => exact ⟨q + 1, by omega, by go_num, by rw [HS2.out]; exact O3.out, K5⟩
        case measure => simp [intOf]; omega
      · obtain rfl : q = 4 := by omega
        have hz9 := K3.size
        go_wp2_with fail
        go_ret2
        exact ⟨_, rfl, ho.base hz9, K3.trans kr⟩

end Go.Proofs.YtncmjpgknckhjaaGreatDoor
