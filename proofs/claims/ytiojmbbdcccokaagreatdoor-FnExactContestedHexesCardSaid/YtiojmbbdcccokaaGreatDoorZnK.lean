/-
  ContestedHexes of the program. Nothing that was there is changed. The named variables hold what the program's text lays.
-/
import Derived.Test.YtiojmbbdcccokaaGreatDoorZnZ
import Derived.Test.YtiojmbbdcccokaaGreatDoorMid
import Derived.Test.YtiojmbbdcccokaaGreatDoorQa
import Derived.Test.YtiojmbbdcccokaaGreatDoorQa
namespace Go.Proofs.YtiojmbbdcccokaaGreatDoor
open Go.RowKit


set_option maxRecDepth 100000 in
set_option maxHeartbeats 4000000 in
theorem conClo_any (At Ak : Option Addr) (nt nk ct ck : Nat) (l : List Ter) (m : List Knd) (a b c d e W H : Int) (x r y : Value) (lt lr ld : List Int) (T Z : Int) (u : Value) (us : List Uni) (B1 B2 : Nat) (j : Nat) (P Q : Bool) (w : World) (ht : Tab w) (hB : BrdAt w At Ak nt nk l m x r y lt lr ld) (hS : StaAt w u us)
    (CA : ∀ w, Tab w → BrdAt w At Ak nt nk l m x r y lt lr ld → StaAt w u us → Calls Tryz.prog 38 #[.agg #[.slice At nt ct, .slice Ak nk ck, .int .i64 a, .int .i64 b, .int .i64 c, .int .i64 d, .int .i64 e, .int .i64 W, .int .i64 H, x, r, y, .int .i64 T, .int .i64 Z, u, .int .i64 0], .int .i64 (j : Int)] w fun e' w' => e' = .returned (.bool P) ∧ Kp w w')
    (CB : ∀ w, Tab w → BrdAt w At Ak nt nk l m x r y lt lr ld → StaAt w u us → Calls Tryz.prog 38 #[.agg #[.slice At nt ct, .slice Ak nk ck, .int .i64 a, .int .i64 b, .int .i64 c, .int .i64 d, .int .i64 e, .int .i64 W, .int .i64 H, x, r, y, .int .i64 T, .int .i64 Z, u, .int .i64 1], .int .i64 (j : Int)] w fun e' w' => e' = .returned (.bool Q) ∧ Kp w w')
    (h0 : ZonAt w B1 At Ak nt nk ct ck a b c d e W H x r y T Z u 0) (h1 : ZonAt w B2 At Ak nt nk ct ck a b c d e W H x r y T Z u 1) :
    Calls Tryz.prog 37 #[.int .i64 (j : Int), .pointer (some ⟨B1, 0, none⟩), .pointer (some ⟨B2, 0, none⟩)] w fun e' w' => e' = .returned (.bool (P && Q)) ∧ Kp w w' := by
  have HT := Lib.hid ht
  have HB := Lib.hid hB
  have HS := Lib.hid hS
  have CA2 := Lib.hid CA
  have CB2 := Lib.hid CB
  have Z1 := Lib.hid h1
  obtain ⟨z0, z1, z2, z3, z4, z5, z6, z7, z8, z9, z10, z11, z12, z13, z14, z15⟩ := h0
  clear ht hB hS CA CB h1
  cases P
  · go_enter Tryz.func37, Tryz.ntmps37
    go_wp2_with fail
    refine (CA2.out _ HT.out HB.out HS.out).mono ?_
    rintro e1 w1 ⟨rfl, k1⟩
    go_wp2_with fail
    go_ret
    exact ⟨ret_bool (by simp), k1⟩
  · go_enter Tryz.func37, Tryz.ntmps37
    go_wp2_with fail
    refine (CA2.out _ HT.out HB.out HS.out).mono ?_
    rintro e1 w1 ⟨rfl, k1⟩
    obtain ⟨y0, y1, y2, y3, y4, y5, y6, y7, y8, y9, y10, y11, y12, y13, y14, y15⟩ := Z1.out.keep k1
    clear z0 z1 z2 z3 z4 z5 z6 z7 z8 z9 z10 z11 z12 z13 z14 z15
    go_wp2_with fail
    refine (CB2.out _ (HT.out.keep k1) (HB.out.keep k1) (HS.out.keep k1)).mono ?_
    rintro e2 w2 ⟨rfl, k2⟩
    go_wp2_with fail
    go_ret
    exact ⟨ret_bool (by simp), k1.trans k2⟩

set_option maxRecDepth 100000 in
set_option maxHeartbeats 4000000 in
theorem contested_s (At Ak : Option Addr) (nt nk ct ck : Nat) (l : List Ter) (m : List Knd) (a b c d e W H : Int) (Ax Ar Ay : Option Addr) (nx cx nr cr ny cy : Nat) (lt lr ld : List Int) (T Z : Int) (Au : Option Addr) (nu cu : Nat) (us : List Uni) (w : World) (hs : Spans w) (ht : Tab w) (hu : SpU w) (hB : BrdAt w At Ak nt nk l m (.slice Ax nx cx) (.slice Ar nr cr) (.slice Ay ny cy) lt lr ld) (hS : StaAt w (.slice Au nu cu) us) :
    Calls Tryz.prog 12 #[bv (.slice At nt ct) (.slice Ak nk ck) a b c d e W H (.slice Ax nx cx) (.slice Ar nr cr) (.slice Ay ny cy), sv T Z (.slice Au nu cu)] w (ListPostI (brdOk ⟨l, m, a, b, c, d, e⟩ W H lt lr ld && staOk ⟨l, m, a, b, c, d, e⟩ W H lt T Z us) (conL l m lt lr ld W us) w) := by
  have KA : Kp w ((w.alloc (.cells #[.slice At nt ct, .slice Ak nk ck, .int .i64 a, .int .i64 b, .int .i64 c, .int .i64 d, .int .i64 e, .int .i64 W, .int .i64 H, .slice Ax nx cx, .slice Ar nr cr, .slice Ay ny cy] 44)).alloc (.cells #[.int .i64 T, .int .i64 Z, .slice Au nu cu] 48)) := ((Kp.refl w).alloc _).alloc _
  have s0 : cb12 ((w.alloc (.cells #[.slice At nt ct, .slice Ak nk ck, .int .i64 a, .int .i64 b, .int .i64 c, .int .i64 d, .int .i64 e, .int .i64 W, .int .i64 H, .slice Ax nx cx, .slice Ar nr cr, .slice Ay ny cy] 44)).alloc (.cells #[.int .i64 T, .int .i64 Z, .slice Au nu cu] 48)) (w.heap.size) (.slice At nt ct) (.slice Ak nk ck) (.int .i64 a) (.int .i64 b) (.int .i64 c) (.int .i64 d) (.int .i64 e) (.int .i64 W) (.int .i64 H) (.slice Ax nx cx) (.slice Ar nr cr) (.slice Ay ny cy) (cb3 ((w.alloc (.cells #[.slice At nt ct, .slice Ak nk ck, .int .i64 a, .int .i64 b, .int .i64 c, .int .i64 d, .int .i64 e, .int .i64 W, .int .i64 H, .slice Ax nx cx, .slice Ar nr cr, .slice Ay ny cy] 44)).alloc (.cells #[.int .i64 T, .int .i64 Z, .slice Au nu cu] 48)) (w.heap.size + 1) (.int .i64 T) (.int .i64 Z) (.slice Au nu cu) (Kp w ((w.alloc (.cells #[.slice At nt ct, .slice Ak nk ck, .int .i64 a, .int .i64 b, .int .i64 c, .int .i64 d, .int .i64 e, .int .i64 W, .int .i64 H, .slice Ax nx cx, .slice Ar nr cr, .slice Ay ny cy] 44)).alloc (.cells #[.int .i64 T, .int .i64 Z, .slice Au nu cu] 48)))) := ⟨by simp [go_sem], by simp [go_sem], by simp [go_sem], by simp [go_sem], by simp [go_sem], by simp [go_sem], by simp [go_sem], by simp [go_sem], by simp [go_sem], by simp [go_sem], by simp [go_sem], by simp [go_sem], by simp [go_sem], by simp [go_sem], by simp [go_sem], KA⟩
  have HSP := Lib.hid hs
  have HT := Lib.hid ht
  have HU := Lib.hid hu
  have HB := Lib.hid hB
  have HS := Lib.hid hS
  clear hs ht hu hB hS
  have C0 := Lib.hid (fun (w : World) hs ht hu hB hS => isStateOn_any At Ak nt nk ct ck l m a b c d e W H (.slice Ax nx cx) (.slice Ar nr cr) (.slice Ay ny cy) lt lr ld T Z (.slice Au nu cu) us w hs ht hu hB hS)
  cases hg0 : brdOk ⟨l, m, a, b, c, d, e⟩ W H lt lr ld && staOk ⟨l, m, a, b, c, d, e⟩ W H lt T Z us
  · rw [hg0] at C0
    clear hg0
    repeat (first | rw [Bool.true_and] | rw [Bool.and_true] | rw [Bool.false_and] | rw [Bool.and_false])
    go_enter Tryz.func12, Tryz.ntmps12
    go_wp2_with fail
    refine (C0.out _ (HSP.out.keep s0.2.2.2.2.2.2.2.2.2.2.2.2.2.2.2) (HT.out.keep s0.2.2.2.2.2.2.2.2.2.2.2.2.2.2.2) (HU.out.keep s0.2.2.2.2.2.2.2.2.2.2.2.2.2.2.2) (HB.out.keep s0.2.2.2.2.2.2.2.2.2.2.2.2.2.2.2) (HS.out.keep s0.2.2.2.2.2.2.2.2.2.2.2.2.2.2.2)).mono ?_
    rintro e1 w1 ⟨rfl, k1⟩
    have s1 := keepy15 k1 s0
    clear s0 k1
    go_wp2_with fail
    go_ret2
    exact ListPostI.no (s1.2.2.2.2.2.2.2.2.2.2.2.2.2.2.2)
  · rw [hg0] at C0
    have hok : brdOk ⟨l, m, a, b, c, d, e⟩ W H lt lr ld = true := by
      simp only [Bool.and_eq_true] at hg0
      exact hg0.1
    have hst : staOk ⟨l, m, a, b, c, d, e⟩ W H lt T Z us = true := by
      simp only [Bool.and_eq_true] at hg0
      exact hg0.2
    obtain ⟨p1, p2, p3, p4⟩ := mapOk_side (brdOk_map hok)
    have hlen := mapOk_len (brdOk_map hok)
    have CA : Hid (∀ j : Nat, j < lt.length → ∀ w, Tab w → BrdAt w At Ak nt nk l m (.slice Ax nx cx) (.slice Ar nr cr) (.slice Ay ny cy) lt lr ld → StaAt w (.slice Au nu cu) us → Calls Tryz.prog 38 #[.agg #[.slice At nt ct, .slice Ak nk ck, .int .i64 a, .int .i64 b, .int .i64 c, .int .i64 d, .int .i64 e, .int .i64 W, .int .i64 H, .slice Ax nx cx, .slice Ar nr cr, .slice Ay ny cy, .int .i64 T, .int .i64 Z, .slice Au nu cu, .int .i64 0], .int .i64 (j : Int)] w fun e' w' => e' = .returned (.bool (zonB l m lt lr ld W us 0 j)) ∧ Kp w w') := Lib.hid fun j hj w ht hB hS => has_zone At Ak nt nk ct ck l m a b c d e W H (.slice Ax nx cx) (.slice Ar nr cr) (.slice Ay ny cy) lt lr ld T Z (.slice Au nu cu) us 0 j w ht hB hS hok hst (onI_mk (by omega) (by omega))
    have CB : Hid (∀ j : Nat, j < lt.length → ∀ w, Tab w → BrdAt w At Ak nt nk l m (.slice Ax nx cx) (.slice Ar nr cr) (.slice Ay ny cy) lt lr ld → StaAt w (.slice Au nu cu) us → Calls Tryz.prog 38 #[.agg #[.slice At nt ct, .slice Ak nk ck, .int .i64 a, .int .i64 b, .int .i64 c, .int .i64 d, .int .i64 e, .int .i64 W, .int .i64 H, .slice Ax nx cx, .slice Ar nr cr, .slice Ay ny cy, .int .i64 T, .int .i64 Z, .slice Au nu cu, .int .i64 1], .int .i64 (j : Int)] w fun e' w' => e' = .returned (.bool (zonB l m lt lr ld W us 1 j)) ∧ Kp w w') := Lib.hid fun j hj w ht hB hS => has_zone At Ak nt nk ct ck l m a b c d e W H (.slice Ax nx cx) (.slice Ar nr cr) (.slice Ay ny cy) lt lr ld T Z (.slice Au nu cu) us 1 j w ht hB hS hok hst (onI_mk (by omega) (by omega))
    have CW := Lib.hid (fun (B1 B2 : Nat) (w0 : World) (h0 : ZonAt w0 B1 At Ak nt nk ct ck a b c d e W H (.slice Ax nx cx) (.slice Ar nr cr) (.slice Ay ny cy) T Z (.slice Au nu cu) 0) (h1 : ZonAt w0 B2 At Ak nt nk ct ck a b c d e W H (.slice Ax nx cx) (.slice Ar nr cr) (.slice Ay ny cy) T Z (.slice Au nu cu) 1) (ht : Tab w0) (hB : BrdAt w0 At Ak nt nk l m (.slice Ax nx cx) (.slice Ar nr cr) (.slice Ay ny cy) lt lr ld) (hS : StaAt w0 (.slice Au nu cu) us) => hexesWhere_C #[.pointer (some ⟨B1, 0, none⟩), .pointer (some ⟨B2, 0, none⟩)] W H (.slice Ax nx cx) (.slice Ar nr cr) (.slice Ay ny cy) (fun j => zonB l m lt lr ld W us 0 j && zonB l m lt lr ld W us 1 j) lt.length w0 w0 p1 p2 p3 p4 hlen (fun j hj w' k' => conClo_any At Ak nt nk ct ck l m a b c d e W H (.slice Ax nx cx) (.slice Ar nr cr) (.slice Ay ny cy) lt lr ld T Z (.slice Au nu cu) us B1 B2 j (zonB l m lt lr ld W us 0 j) (zonB l m lt lr ld W us 1 j) w' (ht.keep k') (hB.keep k') (hS.keep k') (CA.out j hj) (CB.out j hj) (h0.keep k') (h1.keep k')) (Kp.refl _))
    have HL : Hid (conL l m lt lr ld W us = filN (fun j => zonB l m lt lr ld W us 0 j && zonB l m lt lr ld W us 1 j) lt.length) := Lib.hid rfl
    rw [HL.out]
    clear HL CA CB hok hst p1 p2 p3 p4 hlen hg0
    repeat (first | rw [Bool.true_and] | rw [Bool.and_true] | rw [Bool.false_and] | rw [Bool.and_false])
    go_enter Tryz.func12, Tryz.ntmps12
    go_wp2_with fail
    refine (C0.out _ (HSP.out.keep s0.2.2.2.2.2.2.2.2.2.2.2.2.2.2.2) (HT.out.keep s0.2.2.2.2.2.2.2.2.2.2.2.2.2.2.2) (HU.out.keep s0.2.2.2.2.2.2.2.2.2.2.2.2.2.2.2) (HB.out.keep s0.2.2.2.2.2.2.2.2.2.2.2.2.2.2.2) (HS.out.keep s0.2.2.2.2.2.2.2.2.2.2.2.2.2.2.2)).mono ?_
    rintro e1 w1 ⟨rfl, k1⟩
    have s1 := keepy15 k1 s0
    clear s0 k1
    go_upto_region 3 with (fail)
    have sg := keepy15 ((Kp.refl w1).drew) s1
    clear s1
    refine wp_region_held_drew (S := (fun w' => cb12 w' (w.heap.size) (.slice At nt ct) (.slice Ak nk ck) (.int .i64 a) (.int .i64 b) (.int .i64 c) (.int .i64 d) (.int .i64 e) (.int .i64 W) (.int .i64 H) (.slice Ax nx cx) (.slice Ar nr cr) (.slice Ay ny cy) (cb3 w' (w.heap.size + 1) (.int .i64 T) (.int .i64 Z) (.slice Au nu cu) (Kp w w')))) (by kernel_rfl) ?_ (fun hHeld => ?_)
    · assumption
    generalize w1.drew = V at *
    have hV := hHeld
    clear sg
    refine tk 0 ⟨some 12, _, _, _, _, _⟩ ?_ rfl (by kernel_rfl) (fun _ _ _ h => h) (by rfl) ?_ (by assumption) ?_
    rotate_left
    · intro w hSw; (try dsimp only at hSw); go_simp; (all_goals with_reducible rfl)
    try simp only [Act.put, sA, sB, sC]
    refine tk 1 ⟨some 13, _, _, _, _, _⟩ ?_ rfl (by kernel_rfl) (fun _ _ _ h => h) (by rfl) ?_ (by assumption) ?_
    rotate_left
    · intro w hSw; (try dsimp only at hSw); go_simp; (all_goals with_reducible rfl)
    try simp only [Act.put, sA, sB, sC]
    refine tk 2 ⟨some 14, _, _, _, _, _⟩ ?_ rfl (by kernel_rfl) (fun _ _ _ h => h) (by rfl) ?_ (by assumption) ?_
    rotate_left
    · intro w hSw; (try dsimp only at hSw); go_simp; (all_goals with_reducible rfl)
    try simp only [Act.put, sA, sB, sC]
    refine tk 3 ⟨some 15, _, _, _, _, _⟩ ?_ rfl (by kernel_rfl) (fun _ _ _ h => h) (by rfl) ?_ (by assumption) ?_
    rotate_left
    · intro w hSw; (try dsimp only at hSw); go_simp; (all_goals with_reducible rfl)
    try simp only [Act.put, sA, sB, sC]
    refine tk 4 ⟨some 16, _, _, _, _, _⟩ ?_ rfl (by kernel_rfl) (fun _ _ _ h => h) (by rfl) ?_ (by assumption) ?_
    rotate_left
    · intro w hSw; (try dsimp only at hSw); go_simp; (all_goals with_reducible rfl)
    try simp only [Act.put, sA, sB, sC]
    refine tk 5 ⟨some 17, _, _, _, _, _⟩ ?_ rfl (by kernel_rfl) (fun _ _ _ h => h) (by rfl) ?_ (by assumption) ?_
    rotate_left
    · intro w hSw; (try dsimp only at hSw); go_simp; (all_goals with_reducible rfl)
    try simp only [Act.put, sA, sB, sC]
    refine wpAnyH_ready (rs := [6, 7]) (by kernel_rfl) (by simp) ?_
    refine (AllReadyH.cons (o := ⟨some 6, _, _, _, _, _⟩) rfl (fun K hK => ?_) (AllReadyH.cons (o := ⟨some 7, _, _, _, _, _⟩) rfl (fun K hK => ?_) AllReadyH.nil))
    · go_simp
      go_wp2_with fail
      have kA : Kp V (V.alloc (.cells #[.slice none 0 0, .slice none 0 0, .int .i64 0, .int .i64 0, .int .i64 0, .int .i64 0, .int .i64 0, .int .i64 0, .int .i64 0, .slice none 0 0, .slice none 0 0, .slice none 0 0, .int .i64 0, .int .i64 0, .slice none 0 0, .int .i64 0] 73)) := (Kp.refl V).alloc _
      have hA := keepy15 kA hV
      have tA := there_fresh V [.slice none 0 0, .slice none 0 0, .int .i64 0, .int .i64 0, .int .i64 0, .int .i64 0, .int .i64 0, .int .i64 0, .int .i64 0, .slice none 0 0, .slice none 0 0, .slice none 0 0, .int .i64 0, .int .i64 0, .slice none 0 0, .int .i64 0] 73
      have HZA : Hid ((V.alloc (.cells #[.slice none 0 0, .slice none 0 0, .int .i64 0, .int .i64 0, .int .i64 0, .int .i64 0, .int .i64 0, .int .i64 0, .int .i64 0, .slice none 0 0, .slice none 0 0, .slice none 0 0, .int .i64 0, .int .i64 0, .slice none 0 0, .int .i64 0] 73)).heap.size = V.heap.size + 1) := Lib.hid (by simp)
      generalize V.alloc (.cells #[.slice none 0 0, .slice none 0 0, .int .i64 0, .int .i64 0, .int .i64 0, .int .i64 0, .int .i64 0, .int .i64 0, .int .i64 0, .slice none 0 0, .slice none 0 0, .slice none 0 0, .int .i64 0, .int .i64 0, .slice none 0 0, .int .i64 0] 73) = VA at *
      refine hK.out _ _ ?_ (fun hHeld => ?_)
      · (try dsimp only); (first | assumption | exact hA)
      clear hK K
      try simp only [Act.put, sA, sB, sC]
      refine wpAnyH_ready (rs := [7]) (by kernel_rfl) (by simp) ?_
      refine (AllReadyH.cons (o := ⟨some 7, _, _, _, _, _⟩) rfl (fun K hK => ?_) AllReadyH.nil)
      go_simp
      go_wp2_with fail
      have kB : Kp V (VA.alloc (.cells #[.slice none 0 0, .slice none 0 0, .int .i64 0, .int .i64 0, .int .i64 0, .int .i64 0, .int .i64 0, .int .i64 0, .int .i64 0, .slice none 0 0, .slice none 0 0, .slice none 0 0, .int .i64 0, .int .i64 0, .slice none 0 0, .int .i64 0] 73)) := kA.alloc _
      have hB2 := keepy15 kB hV
      have tA2 := World.there_alloc tA (.cells #[.slice none 0 0, .slice none 0 0, .int .i64 0, .int .i64 0, .int .i64 0, .int .i64 0, .int .i64 0, .int .i64 0, .int .i64 0, .slice none 0 0, .slice none 0 0, .slice none 0 0, .int .i64 0, .int .i64 0, .slice none 0 0, .int .i64 0] 73)
      have tB := there_fresh VA [.slice none 0 0, .slice none 0 0, .int .i64 0, .int .i64 0, .int .i64 0, .int .i64 0, .int .i64 0, .int .i64 0, .int .i64 0, .slice none 0 0, .slice none 0 0, .slice none 0 0, .int .i64 0, .int .i64 0, .slice none 0 0, .int .i64 0] 73
      generalize VA.alloc (.cells #[.slice none 0 0, .slice none 0 0, .int .i64 0, .int .i64 0, .int .i64 0, .int .i64 0, .int .i64 0, .int .i64 0, .int .i64 0, .slice none 0 0, .slice none 0 0, .slice none 0 0, .int .i64 0, .int .i64 0, .slice none 0 0, .int .i64 0] 73) = VB at *
      refine hK.out _ _ ?_ (fun hHeld => ?_)
      · (try dsimp only); (first | assumption | exact hB2)
      clear hK K
      try simp only [Act.put, sA, sB, sC]
      refine wpAnyH_ready (rs := [8]) (by kernel_rfl) (by simp) ?_
      refine (AllReadyH.cons (o := ⟨none, _, _, _, _, _⟩) rfl (fun K hK => ?_) AllReadyH.nil)
      rw [if_pos (by rfl)]
      refine wp_store_mid 73 _ _ rfl (V.heap.size) 0 #[.slice At nt ct, .slice Ak nk ck, .int .i64 a, .int .i64 b, .int .i64 c, .int .i64 d, .int .i64 e, .int .i64 W, .int .i64 H, .slice Ax nx cx, .slice Ar nr cr, .slice Ay ny cy, .int .i64 T, .int .i64 Z, .slice Au nu cu, .int .i64 0] rfl rfl tA2 (by kernel_rfl) (by simp [Value.oneCell']) ?_
      have eL : (#[.slice At nt ct, .slice Ak nk ck, .int .i64 a, .int .i64 b, .int .i64 c, .int .i64 d, .int .i64 e, .int .i64 W, .int .i64 H, .slice Ax nx cx, .slice Ar nr cr, .slice Ay ny cy, .int .i64 T, .int .i64 Z, .slice Au nu cu, .int .i64 0] : Array Value).toList = [.slice At nt ct, .slice Ak nk ck, .int .i64 a, .int .i64 b, .int .i64 c, .int .i64 d, .int .i64 e, .int .i64 W, .int .i64 H, .slice Ax nx cx, .slice Ar nr cr, .slice Ay ny cy, .int .i64 T, .int .i64 Z, .slice Au nu cu, .int .i64 0] := rfl
      rw [eL]
      clear eL
      have k8 : Kp V (VB.setCells (V.heap.size) 0 [.slice At nt ct, .slice Ak nk ck, .int .i64 a, .int .i64 b, .int .i64 c, .int .i64 d, .int .i64 e, .int .i64 W, .int .i64 H, .slice Ax nx cx, .slice Ar nr cr, .slice Ay ny cy, .int .i64 T, .int .i64 Z, .slice Au nu cu, .int .i64 0]) := kp_cells (by have := HZA.out; omega) _ _ _ kB
      have h8 := keepy15 k8 hV
      have r6 := World.rangeAt_setCells_same VB (V.heap.size) 0 [.slice At nt ct, .slice Ak nk ck, .int .i64 a, .int .i64 b, .int .i64 c, .int .i64 d, .int .i64 e, .int .i64 W, .int .i64 H, .slice Ax nx cx, .slice Ar nr cr, .slice Ay ny cy, .int .i64 T, .int .i64 Z, .slice Au nu cu, .int .i64 0] tA2
      have t7 := World.there_setCells tB (V.heap.size) 0 [.slice At nt ct, .slice Ak nk ck, .int .i64 a, .int .i64 b, .int .i64 c, .int .i64 d, .int .i64 e, .int .i64 W, .int .i64 H, .slice Ax nx cx, .slice Ar nr cr, .slice Ay ny cy, .int .i64 T, .int .i64 Z, .slice Au nu cu, .int .i64 0]
      generalize VB.setCells (V.heap.size) 0 [.slice At nt ct, .slice Ak nk ck, .int .i64 a, .int .i64 b, .int .i64 c, .int .i64 d, .int .i64 e, .int .i64 W, .int .i64 H, .slice Ax nx cx, .slice Ar nr cr, .slice Ay ny cy, .int .i64 T, .int .i64 Z, .slice Au nu cu, .int .i64 0] = VC at *
      refine hK.out _ _ ?_ (fun hHeld => ?_)
      · (try dsimp only); (first | assumption | exact h8)
      clear hK K
      try simp only [Act.put]
      refine wpAnyH_ready (rs := [9]) (by kernel_rfl) (by simp) ?_
      refine (AllReadyH.cons (o := ⟨none, _, _, _, _, _⟩) rfl (fun K hK => ?_) AllReadyH.nil)
      rw [if_pos (by rfl)]
      refine wp_store_mid 73 _ _ rfl (VA.heap.size) 0 #[.slice At nt ct, .slice Ak nk ck, .int .i64 a, .int .i64 b, .int .i64 c, .int .i64 d, .int .i64 e, .int .i64 W, .int .i64 H, .slice Ax nx cx, .slice Ar nr cr, .slice Ay ny cy, .int .i64 T, .int .i64 Z, .slice Au nu cu, .int .i64 1] rfl rfl t7 (by kernel_rfl) (by simp [Value.oneCell']) ?_
      have eL : (#[.slice At nt ct, .slice Ak nk ck, .int .i64 a, .int .i64 b, .int .i64 c, .int .i64 d, .int .i64 e, .int .i64 W, .int .i64 H, .slice Ax nx cx, .slice Ar nr cr, .slice Ay ny cy, .int .i64 T, .int .i64 Z, .slice Au nu cu, .int .i64 1] : Array Value).toList = [.slice At nt ct, .slice Ak nk ck, .int .i64 a, .int .i64 b, .int .i64 c, .int .i64 d, .int .i64 e, .int .i64 W, .int .i64 H, .slice Ax nx cx, .slice Ar nr cr, .slice Ay ny cy, .int .i64 T, .int .i64 Z, .slice Au nu cu, .int .i64 1] := rfl
      rw [eL]
      clear eL
      have k9 : Kp V (VC.setCells (VA.heap.size) 0 [.slice At nt ct, .slice Ak nk ck, .int .i64 a, .int .i64 b, .int .i64 c, .int .i64 d, .int .i64 e, .int .i64 W, .int .i64 H, .slice Ax nx cx, .slice Ar nr cr, .slice Ay ny cy, .int .i64 T, .int .i64 Z, .slice Au nu cu, .int .i64 1]) := kp_cells (by have := HZA.out; omega) _ _ _ k8
      have h9 := keepy15 k9 hV
      have r7 := World.rangeAt_setCells_same VC (VA.heap.size) 0 [.slice At nt ct, .slice Ak nk ck, .int .i64 a, .int .i64 b, .int .i64 c, .int .i64 d, .int .i64 e, .int .i64 W, .int .i64 H, .slice Ax nx cx, .slice Ar nr cr, .slice Ay ny cy, .int .i64 T, .int .i64 Z, .slice Au nu cu, .int .i64 1] t7
      have q6 := World.rangeAt_setCells_apart r6 (VA.heap.size) 0 [.slice At nt ct, .slice Ak nk ck, .int .i64 a, .int .i64 b, .int .i64 c, .int .i64 d, .int .i64 e, .int .i64 W, .int .i64 H, .slice Ax nx cx, .slice Ar nr cr, .slice Ay ny cy, .int .i64 T, .int .i64 Z, .slice Au nu cu, .int .i64 1] (.inl (by have := HZA.out; omega))
      generalize VC.setCells (VA.heap.size) 0 [.slice At nt ct, .slice Ak nk ck, .int .i64 a, .int .i64 b, .int .i64 c, .int .i64 d, .int .i64 e, .int .i64 W, .int .i64 H, .slice Ax nx cx, .slice Ar nr cr, .slice Ay ny cy, .int .i64 T, .int .i64 Z, .slice Au nu cu, .int .i64 1] = VD at *
      refine hK.out _ _ ?_ (fun hHeld => ?_)
      · (try dsimp only); (first | assumption | exact h9)
      clear hK K
      try simp only [Act.put]
      refine wpAnyH_done (by kernel_rfl) ?_ _
      have KD := h9.2.2.2.2.2.2.2.2.2.2.2.2.2.2.2
      have CX := Lib.hid (CW.out (V.heap.size) (VA.heap.size) VD ⟨range_at q6 0 _ rfl, range_at q6 1 _ rfl, range_at q6 2 _ rfl, range_at q6 3 _ rfl, range_at q6 4 _ rfl, range_at q6 5 _ rfl, range_at q6 6 _ rfl, range_at q6 7 _ rfl, range_at q6 8 _ rfl, range_at q6 9 _ rfl, range_at q6 10 _ rfl, range_at q6 11 _ rfl, range_at q6 12 _ rfl, range_at q6 13 _ rfl, range_at q6 14 _ rfl, range_at q6 15 _ rfl⟩ ⟨range_at r7 0 _ rfl, range_at r7 1 _ rfl, range_at r7 2 _ rfl, range_at r7 3 _ rfl, range_at r7 4 _ rfl, range_at r7 5 _ rfl, range_at r7 6 _ rfl, range_at r7 7 _ rfl, range_at r7 8 _ rfl, range_at r7 9 _ rfl, range_at r7 10 _ rfl, range_at r7 11 _ rfl, range_at r7 12 _ rfl, range_at r7 13 _ rfl, range_at r7 14 _ rfl, range_at r7 15 _ rfl⟩ (HT.out.keep KD) (HB.out.keep KD) (HS.out.keep KD))
      clear r6 q6 r7 t7 tA tA2 tB hA hB2 h8 k8 k9 kA kB hV
      go_wp2_with fail
      refine CX.out.mono ?_
      rintro e9 w9 ⟨v9, rfl, o9, k9⟩
      have hz9 := KD.size
      go_wp2_with fail
      go_ret2
      exact ⟨_, rfl, o9.base hz9, KD.trans k9⟩
    · go_simp
      go_wp2_with fail
      have kA : Kp V (V.alloc (.cells #[.slice none 0 0, .slice none 0 0, .int .i64 0, .int .i64 0, .int .i64 0, .int .i64 0, .int .i64 0, .int .i64 0, .int .i64 0, .slice none 0 0, .slice none 0 0, .slice none 0 0, .int .i64 0, .int .i64 0, .slice none 0 0, .int .i64 0] 73)) := (Kp.refl V).alloc _
      have hA := keepy15 kA hV
      have tA := there_fresh V [.slice none 0 0, .slice none 0 0, .int .i64 0, .int .i64 0, .int .i64 0, .int .i64 0, .int .i64 0, .int .i64 0, .int .i64 0, .slice none 0 0, .slice none 0 0, .slice none 0 0, .int .i64 0, .int .i64 0, .slice none 0 0, .int .i64 0] 73
      have HZA : Hid ((V.alloc (.cells #[.slice none 0 0, .slice none 0 0, .int .i64 0, .int .i64 0, .int .i64 0, .int .i64 0, .int .i64 0, .int .i64 0, .int .i64 0, .slice none 0 0, .slice none 0 0, .slice none 0 0, .int .i64 0, .int .i64 0, .slice none 0 0, .int .i64 0] 73)).heap.size = V.heap.size + 1) := Lib.hid (by simp)
      generalize V.alloc (.cells #[.slice none 0 0, .slice none 0 0, .int .i64 0, .int .i64 0, .int .i64 0, .int .i64 0, .int .i64 0, .int .i64 0, .int .i64 0, .slice none 0 0, .slice none 0 0, .slice none 0 0, .int .i64 0, .int .i64 0, .slice none 0 0, .int .i64 0] 73) = VA at *
      refine hK.out _ _ ?_ (fun hHeld => ?_)
      · (try dsimp only); (first | assumption | exact hA)
      clear hK K
      try simp only [Act.put, sA, sB, sC]
      refine wpAnyH_ready (rs := [6]) (by kernel_rfl) (by simp) ?_
      refine (AllReadyH.cons (o := ⟨some 6, _, _, _, _, _⟩) rfl (fun K hK => ?_) AllReadyH.nil)
      go_simp
      go_wp2_with fail
      have kB : Kp V (VA.alloc (.cells #[.slice none 0 0, .slice none 0 0, .int .i64 0, .int .i64 0, .int .i64 0, .int .i64 0, .int .i64 0, .int .i64 0, .int .i64 0, .slice none 0 0, .slice none 0 0, .slice none 0 0, .int .i64 0, .int .i64 0, .slice none 0 0, .int .i64 0] 73)) := kA.alloc _
      have hB2 := keepy15 kB hV
      have tA2 := World.there_alloc tA (.cells #[.slice none 0 0, .slice none 0 0, .int .i64 0, .int .i64 0, .int .i64 0, .int .i64 0, .int .i64 0, .int .i64 0, .int .i64 0, .slice none 0 0, .slice none 0 0, .slice none 0 0, .int .i64 0, .int .i64 0, .slice none 0 0, .int .i64 0] 73)
      have tB := there_fresh VA [.slice none 0 0, .slice none 0 0, .int .i64 0, .int .i64 0, .int .i64 0, .int .i64 0, .int .i64 0, .int .i64 0, .int .i64 0, .slice none 0 0, .slice none 0 0, .slice none 0 0, .int .i64 0, .int .i64 0, .slice none 0 0, .int .i64 0] 73
      generalize VA.alloc (.cells #[.slice none 0 0, .slice none 0 0, .int .i64 0, .int .i64 0, .int .i64 0, .int .i64 0, .int .i64 0, .int .i64 0, .int .i64 0, .slice none 0 0, .slice none 0 0, .slice none 0 0, .int .i64 0, .int .i64 0, .slice none 0 0, .int .i64 0] 73) = VB at *
      refine hK.out _ _ ?_ (fun hHeld => ?_)
      · (try dsimp only); (first | assumption | exact hB2)
      clear hK K
      try simp only [Act.put, sA, sB, sC]
      refine wpAnyH_ready (rs := [8]) (by kernel_rfl) (by simp) ?_
      refine (AllReadyH.cons (o := ⟨none, _, _, _, _, _⟩) rfl (fun K hK => ?_) AllReadyH.nil)
      rw [if_pos (by rfl)]
      refine wp_store_mid 73 _ _ rfl (VA.heap.size) 0 #[.slice At nt ct, .slice Ak nk ck, .int .i64 a, .int .i64 b, .int .i64 c, .int .i64 d, .int .i64 e, .int .i64 W, .int .i64 H, .slice Ax nx cx, .slice Ar nr cr, .slice Ay ny cy, .int .i64 T, .int .i64 Z, .slice Au nu cu, .int .i64 0] rfl rfl tB (by kernel_rfl) (by simp [Value.oneCell']) ?_
      have eL : (#[.slice At nt ct, .slice Ak nk ck, .int .i64 a, .int .i64 b, .int .i64 c, .int .i64 d, .int .i64 e, .int .i64 W, .int .i64 H, .slice Ax nx cx, .slice Ar nr cr, .slice Ay ny cy, .int .i64 T, .int .i64 Z, .slice Au nu cu, .int .i64 0] : Array Value).toList = [.slice At nt ct, .slice Ak nk ck, .int .i64 a, .int .i64 b, .int .i64 c, .int .i64 d, .int .i64 e, .int .i64 W, .int .i64 H, .slice Ax nx cx, .slice Ar nr cr, .slice Ay ny cy, .int .i64 T, .int .i64 Z, .slice Au nu cu, .int .i64 0] := rfl
      rw [eL]
      clear eL
      have k8 : Kp V (VB.setCells (VA.heap.size) 0 [.slice At nt ct, .slice Ak nk ck, .int .i64 a, .int .i64 b, .int .i64 c, .int .i64 d, .int .i64 e, .int .i64 W, .int .i64 H, .slice Ax nx cx, .slice Ar nr cr, .slice Ay ny cy, .int .i64 T, .int .i64 Z, .slice Au nu cu, .int .i64 0]) := kp_cells (by have := HZA.out; omega) _ _ _ kB
      have h8 := keepy15 k8 hV
      have r6 := World.rangeAt_setCells_same VB (VA.heap.size) 0 [.slice At nt ct, .slice Ak nk ck, .int .i64 a, .int .i64 b, .int .i64 c, .int .i64 d, .int .i64 e, .int .i64 W, .int .i64 H, .slice Ax nx cx, .slice Ar nr cr, .slice Ay ny cy, .int .i64 T, .int .i64 Z, .slice Au nu cu, .int .i64 0] tB
      have t7 := World.there_setCells tA2 (VA.heap.size) 0 [.slice At nt ct, .slice Ak nk ck, .int .i64 a, .int .i64 b, .int .i64 c, .int .i64 d, .int .i64 e, .int .i64 W, .int .i64 H, .slice Ax nx cx, .slice Ar nr cr, .slice Ay ny cy, .int .i64 T, .int .i64 Z, .slice Au nu cu, .int .i64 0]
      generalize VB.setCells (VA.heap.size) 0 [.slice At nt ct, .slice Ak nk ck, .int .i64 a, .int .i64 b, .int .i64 c, .int .i64 d, .int .i64 e, .int .i64 W, .int .i64 H, .slice Ax nx cx, .slice Ar nr cr, .slice Ay ny cy, .int .i64 T, .int .i64 Z, .slice Au nu cu, .int .i64 0] = VC at *
      refine hK.out _ _ ?_ (fun hHeld => ?_)
      · (try dsimp only); (first | assumption | exact h8)
      clear hK K
      try simp only [Act.put]
      refine wpAnyH_ready (rs := [9]) (by kernel_rfl) (by simp) ?_
      refine (AllReadyH.cons (o := ⟨none, _, _, _, _, _⟩) rfl (fun K hK => ?_) AllReadyH.nil)
      rw [if_pos (by rfl)]
      refine wp_store_mid 73 _ _ rfl (V.heap.size) 0 #[.slice At nt ct, .slice Ak nk ck, .int .i64 a, .int .i64 b, .int .i64 c, .int .i64 d, .int .i64 e, .int .i64 W, .int .i64 H, .slice Ax nx cx, .slice Ar nr cr, .slice Ay ny cy, .int .i64 T, .int .i64 Z, .slice Au nu cu, .int .i64 1] rfl rfl t7 (by kernel_rfl) (by simp [Value.oneCell']) ?_
      have eL : (#[.slice At nt ct, .slice Ak nk ck, .int .i64 a, .int .i64 b, .int .i64 c, .int .i64 d, .int .i64 e, .int .i64 W, .int .i64 H, .slice Ax nx cx, .slice Ar nr cr, .slice Ay ny cy, .int .i64 T, .int .i64 Z, .slice Au nu cu, .int .i64 1] : Array Value).toList = [.slice At nt ct, .slice Ak nk ck, .int .i64 a, .int .i64 b, .int .i64 c, .int .i64 d, .int .i64 e, .int .i64 W, .int .i64 H, .slice Ax nx cx, .slice Ar nr cr, .slice Ay ny cy, .int .i64 T, .int .i64 Z, .slice Au nu cu, .int .i64 1] := rfl
      rw [eL]
      clear eL
      have k9 : Kp V (VC.setCells (V.heap.size) 0 [.slice At nt ct, .slice Ak nk ck, .int .i64 a, .int .i64 b, .int .i64 c, .int .i64 d, .int .i64 e, .int .i64 W, .int .i64 H, .slice Ax nx cx, .slice Ar nr cr, .slice Ay ny cy, .int .i64 T, .int .i64 Z, .slice Au nu cu, .int .i64 1]) := kp_cells (by have := HZA.out; omega) _ _ _ k8
      have h9 := keepy15 k9 hV
      have r7 := World.rangeAt_setCells_same VC (V.heap.size) 0 [.slice At nt ct, .slice Ak nk ck, .int .i64 a, .int .i64 b, .int .i64 c, .int .i64 d, .int .i64 e, .int .i64 W, .int .i64 H, .slice Ax nx cx, .slice Ar nr cr, .slice Ay ny cy, .int .i64 T, .int .i64 Z, .slice Au nu cu, .int .i64 1] t7
      have q6 := World.rangeAt_setCells_apart r6 (V.heap.size) 0 [.slice At nt ct, .slice Ak nk ck, .int .i64 a, .int .i64 b, .int .i64 c, .int .i64 d, .int .i64 e, .int .i64 W, .int .i64 H, .slice Ax nx cx, .slice Ar nr cr, .slice Ay ny cy, .int .i64 T, .int .i64 Z, .slice Au nu cu, .int .i64 1] (.inl (by have := HZA.out; omega))
      generalize VC.setCells (V.heap.size) 0 [.slice At nt ct, .slice Ak nk ck, .int .i64 a, .int .i64 b, .int .i64 c, .int .i64 d, .int .i64 e, .int .i64 W, .int .i64 H, .slice Ax nx cx, .slice Ar nr cr, .slice Ay ny cy, .int .i64 T, .int .i64 Z, .slice Au nu cu, .int .i64 1] = VD at *
      refine hK.out _ _ ?_ (fun hHeld => ?_)
      · (try dsimp only); (first | assumption | exact h9)
      clear hK K
      try simp only [Act.put]
      refine wpAnyH_done (by kernel_rfl) ?_ _
      have KD := h9.2.2.2.2.2.2.2.2.2.2.2.2.2.2.2
      have CX := Lib.hid (CW.out (VA.heap.size) (V.heap.size) VD ⟨range_at q6 0 _ rfl, range_at q6 1 _ rfl, range_at q6 2 _ rfl, range_at q6 3 _ rfl, range_at q6 4 _ rfl, range_at q6 5 _ rfl, range_at q6 6 _ rfl, range_at q6 7 _ rfl, range_at q6 8 _ rfl, range_at q6 9 _ rfl, range_at q6 10 _ rfl, range_at q6 11 _ rfl, range_at q6 12 _ rfl, range_at q6 13 _ rfl, range_at q6 14 _ rfl, range_at q6 15 _ rfl⟩ ⟨range_at r7 0 _ rfl, range_at r7 1 _ rfl, range_at r7 2 _ rfl, range_at r7 3 _ rfl, range_at r7 4 _ rfl, range_at r7 5 _ rfl, range_at r7 6 _ rfl, range_at r7 7 _ rfl, range_at r7 8 _ rfl, range_at r7 9 _ rfl, range_at r7 10 _ rfl, range_at r7 11 _ rfl, range_at r7 12 _ rfl, range_at r7 13 _ rfl, range_at r7 14 _ rfl, range_at r7 15 _ rfl⟩ (HT.out.keep KD) (HB.out.keep KD) (HS.out.keep KD))
      clear r6 q6 r7 t7 tA tA2 tB hA hB2 h8 k8 k9 kA kB hV
      go_wp2_with fail
      refine CX.out.mono ?_
      rintro e9 w9 ⟨v9, rfl, o9, k9⟩
      have hz9 := KD.size
      go_wp2_with fail
      go_ret2
      exact ⟨_, rfl, o9.base hz9, KD.trans k9⟩

theorem contestedHexesP_any (At Ak : Option Addr) (nt nk ct ck : Nat) (l : List Ter) (m : List Knd) (a b c d e W H : Int) (x r y : Value) (lt lr ld : List Int) (T Z : Int) (u : Value) (us : List Uni) (w : World) (hs : Spans w) (ht : Tab w) (hu : SpU w) (hB : BrdAt w At Ak nt nk l m x r y lt lr ld) (hS : StaAt w u us) :
    Calls Tryz.prog 12 #[bv (.slice At nt ct) (.slice Ak nk ck) a b c d e W H x r y, sv T Z u] w (ListPostI (brdOk ⟨l, m, a, b, c, d, e⟩ W H lt lr ld && staOk ⟨l, m, a, b, c, d, e⟩ W H lt T Z us) (conL l m lt lr ld W us) w) := by
  obtain ⟨Ax, cx, rfl, _⟩ := hB.L.rt
  obtain ⟨Ar, cr, rfl, _⟩ := hB.L.rr
  obtain ⟨Ay, cy, rfl, _⟩ := hB.L.rd
  obtain ⟨Au, cu, rfl, _⟩ := hS.rd
  exact contested_s At Ak nt nk ct ck l m a b c d e W H Ax Ar Ay lt.length cx lr.length cr ld.length cy lt lr ld T Z Au us.length cu us w hs ht hu hB hS

end Go.Proofs.YtiojmbbdcccokaaGreatDoor
