/-
  MustStop of the reference. Nothing that was there is changed.
-/
import Derived.Test.YtncmjpgknckhjaaGreatDoorZsZ
import Derived.Test.YtncmjpgknckhjaaGreatDoorQa
import Derived.Test.YtncmjpgknckhjaaGreatDoorQa
namespace Go.Proofs.YtncmjpgknckhjaaGreatDoor
open Go.RowKit

theorem keepe16 {W0 w w1 : World} {p0 p1 p2 p3 p4 p5 p6 p7 p8 p9 p10 p11 p12 p13 p14 p15 : Addr} {v0 v1 v2 v3 v4 v5 v6 v7 v8 v9 v10 v11 v12 v13 v14 v15 : Value} (k : Kp w w1) (h : w.cell? p0 = some v0 ∧ w.cell? p1 = some v1 ∧ w.cell? p2 = some v2 ∧ w.cell? p3 = some v3 ∧ w.cell? p4 = some v4 ∧ w.cell? p5 = some v5 ∧ w.cell? p6 = some v6 ∧ w.cell? p7 = some v7 ∧ w.cell? p8 = some v8 ∧ w.cell? p9 = some v9 ∧ w.cell? p10 = some v10 ∧ w.cell? p11 = some v11 ∧ w.cell? p12 = some v12 ∧ w.cell? p13 = some v13 ∧ w.cell? p14 = some v14 ∧ w.cell? p15 = some v15 ∧ Kp W0 w) : w1.cell? p0 = some v0 ∧ w1.cell? p1 = some v1 ∧ w1.cell? p2 = some v2 ∧ w1.cell? p3 = some v3 ∧ w1.cell? p4 = some v4 ∧ w1.cell? p5 = some v5 ∧ w1.cell? p6 = some v6 ∧ w1.cell? p7 = some v7 ∧ w1.cell? p8 = some v8 ∧ w1.cell? p9 = some v9 ∧ w1.cell? p10 = some v10 ∧ w1.cell? p11 = some v11 ∧ w1.cell? p12 = some v12 ∧ w1.cell? p13 = some v13 ∧ w1.cell? p14 = some v14 ∧ w1.cell? p15 = some v15 ∧ Kp W0 w1 :=
  ⟨k.cell h.1, k.cell h.2.1, k.cell h.2.2.1, k.cell h.2.2.2.1, k.cell h.2.2.2.2.1, k.cell h.2.2.2.2.2.1, k.cell h.2.2.2.2.2.2.1, k.cell h.2.2.2.2.2.2.2.1, k.cell h.2.2.2.2.2.2.2.2.1, k.cell h.2.2.2.2.2.2.2.2.2.1, k.cell h.2.2.2.2.2.2.2.2.2.2.1, k.cell h.2.2.2.2.2.2.2.2.2.2.2.1, k.cell h.2.2.2.2.2.2.2.2.2.2.2.2.1, k.cell h.2.2.2.2.2.2.2.2.2.2.2.2.2.1, k.cell h.2.2.2.2.2.2.2.2.2.2.2.2.2.2.1, k.cell h.2.2.2.2.2.2.2.2.2.2.2.2.2.2.2.1, h.2.2.2.2.2.2.2.2.2.2.2.2.2.2.2.2.trans k⟩
theorem drewe16 {W0 w : World} {p0 p1 p2 p3 p4 p5 p6 p7 p8 p9 p10 p11 p12 p13 p14 p15 : Addr} {v0 v1 v2 v3 v4 v5 v6 v7 v8 v9 v10 v11 v12 v13 v14 v15 : Value} (h : w.cell? p0 = some v0 ∧ w.cell? p1 = some v1 ∧ w.cell? p2 = some v2 ∧ w.cell? p3 = some v3 ∧ w.cell? p4 = some v4 ∧ w.cell? p5 = some v5 ∧ w.cell? p6 = some v6 ∧ w.cell? p7 = some v7 ∧ w.cell? p8 = some v8 ∧ w.cell? p9 = some v9 ∧ w.cell? p10 = some v10 ∧ w.cell? p11 = some v11 ∧ w.cell? p12 = some v12 ∧ w.cell? p13 = some v13 ∧ w.cell? p14 = some v14 ∧ w.cell? p15 = some v15 ∧ Kp W0 w) : w.drew.cell? p0 = some v0 ∧ w.drew.cell? p1 = some v1 ∧ w.drew.cell? p2 = some v2 ∧ w.drew.cell? p3 = some v3 ∧ w.drew.cell? p4 = some v4 ∧ w.drew.cell? p5 = some v5 ∧ w.drew.cell? p6 = some v6 ∧ w.drew.cell? p7 = some v7 ∧ w.drew.cell? p8 = some v8 ∧ w.drew.cell? p9 = some v9 ∧ w.drew.cell? p10 = some v10 ∧ w.drew.cell? p11 = some v11 ∧ w.drew.cell? p12 = some v12 ∧ w.drew.cell? p13 = some v13 ∧ w.drew.cell? p14 = some v14 ∧ w.drew.cell? p15 = some v15 ∧ Kp W0 w.drew :=
  ⟨h.1, h.2.1, h.2.2.1, h.2.2.2.1, h.2.2.2.2.1, h.2.2.2.2.2.1, h.2.2.2.2.2.2.1, h.2.2.2.2.2.2.2.1, h.2.2.2.2.2.2.2.2.1, h.2.2.2.2.2.2.2.2.2.1, h.2.2.2.2.2.2.2.2.2.2.1, h.2.2.2.2.2.2.2.2.2.2.2.1, h.2.2.2.2.2.2.2.2.2.2.2.2.1, h.2.2.2.2.2.2.2.2.2.2.2.2.2.1, h.2.2.2.2.2.2.2.2.2.2.2.2.2.2.1, h.2.2.2.2.2.2.2.2.2.2.2.2.2.2.2.1, h.2.2.2.2.2.2.2.2.2.2.2.2.2.2.2.2.drew⟩

set_option maxRecDepth 100000 in
set_option maxHeartbeats 4000000 in
theorem specMustStop_any (At Ak : Option Addr) (nt nk ct ck : Nat) (l : List Ter) (m : List Knd) (a b c d e W H : Int) (x r y : Value) (lt lr ld : List Int) (T Z : Int) (u : Value) (us : List Uni) (un i : Int) (w : World) (hB : BrdAt w At Ak nt nk l m x r y lt lr ld) (hS : StaAt w u us) :
    Calls Tryz.prog 38 #[bv (.slice At nt ct) (.slice Ak nk ck) a b c d e W H x r y, sv T Z u, .int .i64 un, .int .i64 i] w fun e' w' => e' = .returned (.tuple #[.bool ((((brdOk ⟨l, m, a, b, c, d, e⟩ W H lt lr ld && staOk ⟨l, m, a, b, c, d, e⟩ W H lt T Z us) && inB un us.length) && onI W H i) && zonB l m lt lr ld W us (1 - (unN us un).s) i), .bool (((brdOk ⟨l, m, a, b, c, d, e⟩ W H lt lr ld && staOk ⟨l, m, a, b, c, d, e⟩ W H lt T Z us) && inB un us.length) && onI W H i)]) ∧ Kp w w' := by
  have KA : Kp w ((w.alloc (.cells #[.slice At nt ct, .slice Ak nk ck, .int .i64 a, .int .i64 b, .int .i64 c, .int .i64 d, .int .i64 e, .int .i64 W, .int .i64 H, x, r, y] 44)).alloc (.cells #[.int .i64 T, .int .i64 Z, u] 48)) := ((Kp.refl w).alloc _).alloc _
  have s0 : cb12 ((w.alloc (.cells #[.slice At nt ct, .slice Ak nk ck, .int .i64 a, .int .i64 b, .int .i64 c, .int .i64 d, .int .i64 e, .int .i64 W, .int .i64 H, x, r, y] 44)).alloc (.cells #[.int .i64 T, .int .i64 Z, u] 48)) (w.heap.size) (.slice At nt ct) (.slice Ak nk ck) (.int .i64 a) (.int .i64 b) (.int .i64 c) (.int .i64 d) (.int .i64 e) (.int .i64 W) (.int .i64 H) (x) (r) (y) (cb3 ((w.alloc (.cells #[.slice At nt ct, .slice Ak nk ck, .int .i64 a, .int .i64 b, .int .i64 c, .int .i64 d, .int .i64 e, .int .i64 W, .int .i64 H, x, r, y] 44)).alloc (.cells #[.int .i64 T, .int .i64 Z, u] 48)) (w.heap.size + 1) (.int .i64 T) (.int .i64 Z) (u) (Kp w ((w.alloc (.cells #[.slice At nt ct, .slice Ak nk ck, .int .i64 a, .int .i64 b, .int .i64 c, .int .i64 d, .int .i64 e, .int .i64 W, .int .i64 H, x, r, y] 44)).alloc (.cells #[.int .i64 T, .int .i64 Z, u] 48)))) := ⟨by simp [go_sem], by simp [go_sem], by simp [go_sem], by simp [go_sem], by simp [go_sem], by simp [go_sem], by simp [go_sem], by simp [go_sem], by simp [go_sem], by simp [go_sem], by simp [go_sem], by simp [go_sem], by simp [go_sem], by simp [go_sem], by simp [go_sem], KA⟩
  have HB := Lib.hid hB
  have HS := Lib.hid hS
  clear hB hS
  have CU := Lib.hid (fun (w : World) hB hS => sHas_any At Ak nt nk ct ck l m a b c d e W H x r y lt lr ld T Z u us un w hB hS)
  cases hg0 : (brdOk ⟨l, m, a, b, c, d, e⟩ W H lt lr ld && staOk ⟨l, m, a, b, c, d, e⟩ W H lt T Z us) && inB un us.length
  · rw [hg0] at CU
    clear hg0
    repeat (first | rw [Bool.true_and] | rw [Bool.and_true] | rw [Bool.false_and] | rw [Bool.and_false])
    go_enter Tryz.func38, Tryz.ntmps38
    go_wp2_with fail
    refine (CU.out _ (HB.out.keep s0.2.2.2.2.2.2.2.2.2.2.2.2.2.2.2) (HS.out.keep s0.2.2.2.2.2.2.2.2.2.2.2.2.2.2.2)).mono ?_
    rintro e1 w1 ⟨rfl, k1⟩
    have s1 := keepe15 k1 s0
    clear s0 k1
    go_wp2_with fail
    go_ret2
    exact ⟨rfl, s1.2.2.2.2.2.2.2.2.2.2.2.2.2.2.2⟩
  · rw [hg0] at CU
    have hok : brdOk ⟨l, m, a, b, c, d, e⟩ W H lt lr ld = true := by
      simp only [Bool.and_eq_true] at hg0
      exact hg0.1.1
    have hst : staOk ⟨l, m, a, b, c, d, e⟩ W H lt T Z us = true := by
      simp only [Bool.and_eq_true] at hg0
      exact hg0.1.2
    obtain ⟨p1, p2, p3, p4⟩ := mapOk_side (brdOk_map hok)
    have hlen := mapOk_len (brdOk_map hok)
    have hun : inB un us.length = true := by
      simp only [Bool.and_eq_true] at hg0
      exact hg0.2
    have CX : Hid (∀ w, BrdAt w At Ak nt nk l m x r y lt lr ld → StaAt w u us → Calls Tryz.prog 53 #[bv (.slice At nt ct) (.slice Ak nk ck) a b c d e W H x r y, sv T Z u, .int .i64 i] w fun e w' => e = .returned (.bool (onI W H i)) ∧ Kp w w') := Lib.hid fun w hB hS => by
      have h := sHex_any At Ak nt nk ct ck l m a b c d e W H x r y lt lr ld T Z u us i w hB hS
      rw [hok, hst, Bool.true_and, Bool.true_and] at h
      exact h
    cases hg1 : onI W H i
    · rw [hg1] at CX
      clear hg1 hok hst p1 p2 p3 p4 hlen hun hg0
      repeat (first | rw [Bool.true_and] | rw [Bool.and_true] | rw [Bool.false_and] | rw [Bool.and_false])
      go_enter Tryz.func38, Tryz.ntmps38
      go_wp2_with fail
      refine (CU.out _ (HB.out.keep s0.2.2.2.2.2.2.2.2.2.2.2.2.2.2.2) (HS.out.keep s0.2.2.2.2.2.2.2.2.2.2.2.2.2.2.2)).mono ?_
      rintro e1 w1 ⟨rfl, k1⟩
      have s1 := keepe15 k1 s0
      clear s0 k1
      go_wp2_with fail
      refine (CX.out _ (HB.out.keep s1.2.2.2.2.2.2.2.2.2.2.2.2.2.2.2) (HS.out.keep s1.2.2.2.2.2.2.2.2.2.2.2.2.2.2.2)).mono ?_
      rintro e2 w2 ⟨rfl, k2⟩
      have s2 := keepe15 k2 s1
      clear s1 k2
      go_wp2_with fail
      go_ret2
      exact ⟨rfl, s2.2.2.2.2.2.2.2.2.2.2.2.2.2.2.2⟩
    · rw [hg1] at CX
      obtain ⟨k0, rfl, hk0, hk1⟩ := unN_of hun
      have hss := (uniOk_side ((staOk_parts hst).2.2.1 _ (List.mem_of_getElem? hk1))).1
      have CZ := Lib.hid (fun (w : World) hB hS => zIn_any At Ak nt nk ct ck l m a b c d e W H x r y lt lr ld T Z u us (i) (1 - (unN us (k0 : Int)).s) w hB hS hok hst hg1)
      obtain ⟨A, cp, rfl, h⟩ := HS.out.rd
      obtain ⟨gu, ou, rfl, hc⟩ := h (by omega)
      have q0 := (hc k0 _ hk1).1
      generalize zonB l m lt lr ld W us (1 - (unN us (k0 : Int)).s) i = R at CZ ⊢
      generalize (unN us (k0 : Int)).s = ss at CZ q0 hss
      generalize us.length = N at *
      have hk' : (k0 : Int) < N := by omega
      have q00 := KA.cell q0
      clear hok hst p1 p2 p3 p4 hlen hun hg0 hg1 hk1 h hc q0
      repeat (first | rw [Bool.true_and] | rw [Bool.and_true] | rw [Bool.false_and] | rw [Bool.and_false])
      go_enter Tryz.func38, Tryz.ntmps38
      go_wp2_with fail
      refine (CU.out _ (HB.out.keep s0.2.2.2.2.2.2.2.2.2.2.2.2.2.2.2) (HS.out.keep s0.2.2.2.2.2.2.2.2.2.2.2.2.2.2.2)).mono ?_
      rintro e1 w1 ⟨rfl, k1⟩
      have s1 := keepe15 k1 s0
      have q11 := k1.cell q00
      clear s0 k1
      go_wp2_with fail
      refine (CX.out _ (HB.out.keep s1.2.2.2.2.2.2.2.2.2.2.2.2.2.2.2) (HS.out.keep s1.2.2.2.2.2.2.2.2.2.2.2.2.2.2.2)).mono ?_
      rintro e2 w2 ⟨rfl, k2⟩
      have s2 := keepe15 k2 s1
      have q22 := k2.cell q11
      clear s1 k2
      go_upto_region 3 with (fail)
      have sg : cb12 (w2.drew) (w.heap.size) (.slice At nt ct) (.slice Ak nk ck) (.int .i64 a) (.int .i64 b) (.int .i64 c) (.int .i64 d) (.int .i64 e) (.int .i64 W) (.int .i64 H) (x) (r) (y) (cb3 (w2.drew) (w.heap.size + 1) (.int .i64 T) (.int .i64 Z) (.slice (some ⟨gu, ou, none⟩) N cp) (w2.drew.cell? ⟨gu, ou + k0 * 4, none⟩ = some (.int .i64 ss) ∧ Kp w w2.drew)) := ⟨s2.1, s2.2.1, s2.2.2.1, s2.2.2.2.1, s2.2.2.2.2.1, s2.2.2.2.2.2.1, s2.2.2.2.2.2.2.1, s2.2.2.2.2.2.2.2.1, s2.2.2.2.2.2.2.2.2.1, s2.2.2.2.2.2.2.2.2.2.1, s2.2.2.2.2.2.2.2.2.2.2.1, s2.2.2.2.2.2.2.2.2.2.2.2.1, s2.2.2.2.2.2.2.2.2.2.2.2.2.1, s2.2.2.2.2.2.2.2.2.2.2.2.2.2.1, s2.2.2.2.2.2.2.2.2.2.2.2.2.2.2.1, q22, s2.2.2.2.2.2.2.2.2.2.2.2.2.2.2.2.drew⟩
      have ew : IntKind.i64.wrap (1 - ss) = 1 - ss := IntWalk.i64_in _ (by omega)
      refine wp_region_held_drew (S := (fun w' => cb12 w' (w.heap.size) (.slice At nt ct) (.slice Ak nk ck) (.int .i64 a) (.int .i64 b) (.int .i64 c) (.int .i64 d) (.int .i64 e) (.int .i64 W) (.int .i64 H) (x) (r) (y) (cb3 w' (w.heap.size + 1) (.int .i64 T) (.int .i64 Z) (.slice (some ⟨gu, ou, none⟩) N cp) (w'.cell? ⟨gu, ou + k0 * 4, none⟩ = some (.int .i64 ss) ∧ Kp w w')))) (by kernel_rfl) ?_ (fun hHeld => ?_)
      · assumption
      generalize w2.drew = V at *
      refine tk 0 ⟨some 22, _, _, _, _, _⟩ ?_ rfl (by kernel_rfl) (fun _ _ _ h => h) (by rfl) ?_ (by assumption) ?_
      rotate_left
      · intro w hSw; (try dsimp only at hSw); go_simp; (all_goals with_reducible rfl)
      try simp only [Act.put, sA, sB, sC]
      refine tk 1 ⟨some 23, _, _, _, _, _⟩ ?_ rfl (by kernel_rfl) (fun _ _ _ h => h) (by rfl) ?_ (by assumption) ?_
      rotate_left
      · intro w hSw; (try dsimp only at hSw); go_simp; (all_goals with_reducible rfl)
      try simp only [Act.put, sA, sB, sC]
      refine tk 2 ⟨some 24, _, _, _, _, _⟩ ?_ rfl (by kernel_rfl) (fun _ _ _ h => h) (by rfl) ?_ (by assumption) ?_
      rotate_left
      · intro w hSw; (try dsimp only at hSw); go_simp; (all_goals with_reducible rfl)
      try simp only [Act.put, sA, sB, sC]
      refine tk 3 ⟨some 25, _, _, _, _, _⟩ ?_ rfl (by kernel_rfl) (fun _ _ _ h => h) (by rfl) ?_ (by assumption) ?_
      rotate_left
      · intro w hSw; (try dsimp only at hSw); go_simp; (all_goals with_reducible rfl)
      try simp only [Act.put, sA, sB, sC]
      refine tk 4 ⟨some 26, _, _, _, _, _⟩ ?_ rfl (by kernel_rfl) (fun _ _ _ h => h) (by rfl) ?_ (by assumption) ?_
      rotate_left
      · intro w hSw; (try dsimp only at hSw); go_simp; (all_goals with_reducible rfl)
      try simp only [Act.put, sA, sB, sC]
      refine tk 5 ⟨some 27, _, _, _, _, _⟩ ?_ rfl (by kernel_rfl) (fun _ _ _ h => h) (by rfl) ?_ (by assumption) ?_
      rotate_left
      · intro w hSw; (try dsimp only at hSw); go_simp; (all_goals with_reducible rfl)
      try simp only [Act.put, sA, sB, sC]
      refine tk 6 ⟨some 28, _, _, _, _, _⟩ ?_ rfl (by kernel_rfl) (fun _ _ _ h => h) (by rfl) ?_ (by assumption) ?_
      rotate_left
      · intro w hSw; (try dsimp only at hSw); go_simp; (all_goals with_reducible rfl)
      try simp only [Act.put, sA, sB, sC]
      refine tk 7 ⟨some 29, _, _, _, _, _⟩ ?_ rfl (by kernel_rfl) (fun _ _ _ h => h) (by rfl) ?_ (by assumption) ?_
      rotate_left
      · intro w hSw; (try dsimp only at hSw); go_simp; (all_goals with_reducible rfl)
      try simp only [Act.put, sA, sB, sC]
      refine tk 8 ⟨some 30, _, _, _, _, _⟩ ?_ rfl (by kernel_rfl) (fun _ _ _ h => h) (by rfl) ?_ (by assumption) ?_
      rotate_left
      · intro w hSw; (try dsimp only at hSw); go_simp; (all_goals with_reducible rfl)
      try simp only [Act.put, sA, sB, sC]
      refine tk 9 ⟨some 31, _, _, _, _, _⟩ ?_ rfl (by kernel_rfl) (fun _ _ _ h => h) (by rfl) ?_ (by assumption) ?_
      rotate_left
      · intro w hSw; (try dsimp only at hSw); go_simp; (all_goals with_reducible rfl)
      try simp only [Act.put, sA, sB, sC]
      refine wpAnyH_ready (rs := [10]) (by kernel_rfl) (by simp) ?_
      refine (AllReadyH.cons (o := ⟨some 32, _, _, _, _, _⟩) rfl (fun K hK => ?_) AllReadyH.nil)
      go_simp
      refine (CZ.out _ (HB.out.keep hHeld.2.2.2.2.2.2.2.2.2.2.2.2.2.2.2.2) (HS.out.keep hHeld.2.2.2.2.2.2.2.2.2.2.2.2.2.2.2.2)).mono ?_
      rintro e9 w9 ⟨rfl, k9⟩
      have s9 := keepe16 k9 hHeld
      go_wp2_with fail
      refine hK.out _ _ ?_ (fun hHeld => ?_)
      · (try dsimp only); (first | assumption)
      clear hK K
      try simp only [Act.put, sA, sB, sC]
      refine tk 11 ⟨some 8, _, _, _, _, _⟩ ?_ rfl (by kernel_rfl) (fun _ _ _ h => h) (by rfl) ?_ (by assumption) ?_
      rotate_left
      · intro w hSw; (try dsimp only at hSw); go_simp; (all_goals with_reducible rfl)
      try simp only [Act.put, sA, sB, sC]
      refine tk 12 ⟨some 9, _, _, _, _, _⟩ ?_ rfl (by kernel_rfl) (fun _ _ _ h => h) (by rfl) ?_ (by assumption) ?_
      rotate_left
      · intro w hSw; (try dsimp only at hSw); go_simp; (all_goals with_reducible rfl)
      try simp only [Act.put, sA, sB, sC]
      refine wpAnyH_done (by kernel_rfl) ?_ _
      go_wp2_with fail
      go_ret2
      exact ⟨rfl, hHeld.2.2.2.2.2.2.2.2.2.2.2.2.2.2.2.2⟩

end Go.Proofs.YtncmjpgknckhjaaGreatDoor
