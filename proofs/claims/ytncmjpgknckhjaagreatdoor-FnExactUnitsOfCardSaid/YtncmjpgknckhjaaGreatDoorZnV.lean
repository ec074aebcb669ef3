/-
  UnitsAt and UnitsOf of the program: new lists. Nothing that was there is changed. The named variables hold what the program's text lays.
-/
import Derived.Test.YtncmjpgknckhjaaGreatDoorZnZ
import Derived.Test.YtncmjpgknckhjaaGreatDoorQa
import Derived.Test.YtncmjpgknckhjaaGreatDoorQa
namespace Go.Proofs.YtncmjpgknckhjaaGreatDoor
open Go.RowKit

theorem keepe15 {W0 w w1 : World} {p0 p1 p2 p3 p4 p5 p6 p7 p8 p9 p10 p11 p12 p13 p14 : Addr} {v0 v1 v2 v3 v4 v5 v6 v7 v8 v9 v10 v11 v12 v13 v14 : Value} (k : Kp w w1) (h : w.cell? p0 = some v0 ∧ w.cell? p1 = some v1 ∧ w.cell? p2 = some v2 ∧ w.cell? p3 = some v3 ∧ w.cell? p4 = some v4 ∧ w.cell? p5 = some v5 ∧ w.cell? p6 = some v6 ∧ w.cell? p7 = some v7 ∧ w.cell? p8 = some v8 ∧ w.cell? p9 = some v9 ∧ w.cell? p10 = some v10 ∧ w.cell? p11 = some v11 ∧ w.cell? p12 = some v12 ∧ w.cell? p13 = some v13 ∧ w.cell? p14 = some v14 ∧ Kp W0 w) : w1.cell? p0 = some v0 ∧ w1.cell? p1 = some v1 ∧ w1.cell? p2 = some v2 ∧ w1.cell? p3 = some v3 ∧ w1.cell? p4 = some v4 ∧ w1.cell? p5 = some v5 ∧ w1.cell? p6 = some v6 ∧ w1.cell? p7 = some v7 ∧ w1.cell? p8 = some v8 ∧ w1.cell? p9 = some v9 ∧ w1.cell? p10 = some v10 ∧ w1.cell? p11 = some v11 ∧ w1.cell? p12 = some v12 ∧ w1.cell? p13 = some v13 ∧ w1.cell? p14 = some v14 ∧ Kp W0 w1 :=
  ⟨k.cell h.1, k.cell h.2.1, k.cell h.2.2.1, k.cell h.2.2.2.1, k.cell h.2.2.2.2.1, k.cell h.2.2.2.2.2.1, k.cell h.2.2.2.2.2.2.1, k.cell h.2.2.2.2.2.2.2.1, k.cell h.2.2.2.2.2.2.2.2.1, k.cell h.2.2.2.2.2.2.2.2.2.1, k.cell h.2.2.2.2.2.2.2.2.2.2.1, k.cell h.2.2.2.2.2.2.2.2.2.2.2.1, k.cell h.2.2.2.2.2.2.2.2.2.2.2.2.1, k.cell h.2.2.2.2.2.2.2.2.2.2.2.2.2.1, k.cell h.2.2.2.2.2.2.2.2.2.2.2.2.2.2.1, h.2.2.2.2.2.2.2.2.2.2.2.2.2.2.2.trans k⟩
theorem drewe15 {W0 w : World} {p0 p1 p2 p3 p4 p5 p6 p7 p8 p9 p10 p11 p12 p13 p14 : Addr} {v0 v1 v2 v3 v4 v5 v6 v7 v8 v9 v10 v11 v12 v13 v14 : Value} (h : w.cell? p0 = some v0 ∧ w.cell? p1 = some v1 ∧ w.cell? p2 = some v2 ∧ w.cell? p3 = some v3 ∧ w.cell? p4 = some v4 ∧ w.cell? p5 = some v5 ∧ w.cell? p6 = some v6 ∧ w.cell? p7 = some v7 ∧ w.cell? p8 = some v8 ∧ w.cell? p9 = some v9 ∧ w.cell? p10 = some v10 ∧ w.cell? p11 = some v11 ∧ w.cell? p12 = some v12 ∧ w.cell? p13 = some v13 ∧ w.cell? p14 = some v14 ∧ Kp W0 w) : w.drew.cell? p0 = some v0 ∧ w.drew.cell? p1 = some v1 ∧ w.drew.cell? p2 = some v2 ∧ w.drew.cell? p3 = some v3 ∧ w.drew.cell? p4 = some v4 ∧ w.drew.cell? p5 = some v5 ∧ w.drew.cell? p6 = some v6 ∧ w.drew.cell? p7 = some v7 ∧ w.drew.cell? p8 = some v8 ∧ w.drew.cell? p9 = some v9 ∧ w.drew.cell? p10 = some v10 ∧ w.drew.cell? p11 = some v11 ∧ w.drew.cell? p12 = some v12 ∧ w.drew.cell? p13 = some v13 ∧ w.drew.cell? p14 = some v14 ∧ Kp W0 w.drew :=
  ⟨h.1, h.2.1, h.2.2.1, h.2.2.2.1, h.2.2.2.2.1, h.2.2.2.2.2.1, h.2.2.2.2.2.2.1, h.2.2.2.2.2.2.2.1, h.2.2.2.2.2.2.2.2.1, h.2.2.2.2.2.2.2.2.2.1, h.2.2.2.2.2.2.2.2.2.2.1, h.2.2.2.2.2.2.2.2.2.2.2.1, h.2.2.2.2.2.2.2.2.2.2.2.2.1, h.2.2.2.2.2.2.2.2.2.2.2.2.2.1, h.2.2.2.2.2.2.2.2.2.2.2.2.2.2.1, h.2.2.2.2.2.2.2.2.2.2.2.2.2.2.2.drew⟩

set_option maxRecDepth 100000 in
set_option maxHeartbeats 4000000 in
theorem atClo_any (B1 : Nat) (i : Int) (z : Uni) (w : World) (hb : w.cell? ⟨B1, 0, none⟩ = some (.int .i64 i)) :
    Calls Tryz.prog 60 #[ux z.s z.k z.a z.t, .pointer (some ⟨B1, 0, none⟩)] w fun e' w' => e' = .returned (.bool (inHex i z)) ∧ Kp w w' := by
  obtain ⟨sx, kx, ax, tx⟩ := z
  have KA : Kp w (w.alloc (.cells #[.int .i64 sx, .int .i64 kx, .int .i64 ax, .int .i64 tx] 71)) := (Kp.refl w).alloc _
  have c0 := KA.cell hb
  clear hb
  go_enter Tryz.func60, Tryz.ntmps60
  go_wp2_with fail
  go_ret
  exact ⟨ret_bool (by unfold inHex; rw [Bool.eq_iff_iff]; simp), KA⟩

set_option maxRecDepth 100000 in
set_option maxHeartbeats 4000000 in
theorem ofClo_any (B1 : Nat) (sd : Int) (z : Uni) (w : World) (hb : w.cell? ⟨B1, 0, none⟩ = some (.int .i64 sd)) :
    Calls Tryz.prog 71 #[ux z.s z.k z.a z.t, .pointer (some ⟨B1, 0, none⟩)] w fun e' w' => e' = .returned (.bool (ofSide sd z)) ∧ Kp w w' := by
  obtain ⟨sx, kx, ax, tx⟩ := z
  have KA : Kp w (w.alloc (.cells #[.int .i64 sx, .int .i64 kx, .int .i64 ax, .int .i64 tx] 71)) := (Kp.refl w).alloc _
  have c0 := KA.cell hb
  clear hb
  by_cases h1 : sx = sd
  · subst h1
    by_cases h2 : ax = -1
    · subst h2
      go_enter Tryz.func71, Tryz.ntmps71
      go_wp2_with fail
      refine (onMap_no _ _ _ _).mono ?_
      rintro e1 w1 ⟨rfl, k1⟩
      go_wp2_with fail
      go_ret
      exact ⟨ret_bool (by simp [ofSide]), KA.trans k1⟩
    · go_enter Tryz.func71, Tryz.ntmps71
      go_wp2_with fail
      refine (onMap_yes _ _ _ _ _ h2).mono ?_
      rintro e1 w1 ⟨rfl, k1⟩
      go_wp2_with fail
      go_ret
      exact ⟨ret_bool (by simp [ofSide, h2]), KA.trans k1⟩
  · have h3 : (sx == sd) = false := by simpa using h1
    go_enter Tryz.func71, Tryz.ntmps71
    go_wp2_with fail
    go_ret
    exact ⟨ret_bool (by simp [ofSide, h1]), KA⟩

set_option maxRecDepth 100000 in
set_option maxHeartbeats 4000000 in
theorem unitsAtP_any (At Ak : Option Addr) (nt nk ct ck : Nat) (l : List Ter) (m : List Knd) (a b c d e W H : Int) (x r y : Value) (lt lr ld : List Int) (T Z : Int) (u : Value) (us : List Uni) (i : Int) (w : World) (hs : Spans w) (ht : Tab w) (hu : SpU w) (hB : BrdAt w At Ak nt nk l m x r y lt lr ld) (hS : StaAt w u us) :
    Calls Tryz.prog 20 #[bv (.slice At nt ct) (.slice Ak nk ck) a b c d e W H x r y, sv T Z u, .int .i64 i] w (ListPostI ((brdOk ⟨l, m, a, b, c, d, e⟩ W H lt lr ld && staOk ⟨l, m, a, b, c, d, e⟩ W H lt T Z us) && onI W H i) (unL (inHex i) us us.length) w) := by
  have KA : Kp w (((w.alloc (.cells #[.slice At nt ct, .slice Ak nk ck, .int .i64 a, .int .i64 b, .int .i64 c, .int .i64 d, .int .i64 e, .int .i64 W, .int .i64 H, x, r, y] 44)).alloc (.cells #[.int .i64 T, .int .i64 Z, u] 48)).alloc (.cells #[.int .i64 i] 3)) := (((Kp.refl w).alloc _).alloc _).alloc _
  have s0 : cb12 (((w.alloc (.cells #[.slice At nt ct, .slice Ak nk ck, .int .i64 a, .int .i64 b, .int .i64 c, .int .i64 d, .int .i64 e, .int .i64 W, .int .i64 H, x, r, y] 44)).alloc (.cells #[.int .i64 T, .int .i64 Z, u] 48)).alloc (.cells #[.int .i64 i] 3)) (w.heap.size) (.slice At nt ct) (.slice Ak nk ck) (.int .i64 a) (.int .i64 b) (.int .i64 c) (.int .i64 d) (.int .i64 e) (.int .i64 W) (.int .i64 H) (x) (r) (y) (cb3 (((w.alloc (.cells #[.slice At nt ct, .slice Ak nk ck, .int .i64 a, .int .i64 b, .int .i64 c, .int .i64 d, .int .i64 e, .int .i64 W, .int .i64 H, x, r, y] 44)).alloc (.cells #[.int .i64 T, .int .i64 Z, u] 48)).alloc (.cells #[.int .i64 i] 3)) (w.heap.size + 1) (.int .i64 T) (.int .i64 Z) (u) (cb2 (((w.alloc (.cells #[.slice At nt ct, .slice Ak nk ck, .int .i64 a, .int .i64 b, .int .i64 c, .int .i64 d, .int .i64 e, .int .i64 W, .int .i64 H, x, r, y] 44)).alloc (.cells #[.int .i64 T, .int .i64 Z, u] 48)).alloc (.cells #[.int .i64 i] 3)) 0 (.int .i64 0) (.int .i64 1) ((((w.alloc (.cells #[.slice At nt ct, .slice Ak nk ck, .int .i64 a, .int .i64 b, .int .i64 c, .int .i64 d, .int .i64 e, .int .i64 W, .int .i64 H, x, r, y] 44)).alloc (.cells #[.int .i64 T, .int .i64 Z, u] 48)).alloc (.cells #[.int .i64 i] 3)).cell? ⟨w.heap.size + 1 + 1, 0, none⟩ = some (.int .i64 i) ∧ Kp w (((w.alloc (.cells #[.slice At nt ct, .slice Ak nk ck, .int .i64 a, .int .i64 b, .int .i64 c, .int .i64 d, .int .i64 e, .int .i64 W, .int .i64 H, x, r, y] 44)).alloc (.cells #[.int .i64 T, .int .i64 Z, u] 48)).alloc (.cells #[.int .i64 i] 3))))) := ⟨by simp [go_sem], by simp [go_sem], by simp [go_sem], by simp [go_sem], by simp [go_sem], by simp [go_sem], by simp [go_sem], by simp [go_sem], by simp [go_sem], by simp [go_sem], by simp [go_sem], by simp [go_sem], by simp [go_sem], by simp [go_sem], by simp [go_sem], KA.cell hu.side.1, KA.cell hu.side.2, by simp [go_sem], KA⟩
  have HSP := Lib.hid hs
  have HT := Lib.hid ht
  have HU := Lib.hid hu
  have HB := Lib.hid hB
  have HS := Lib.hid hS
  clear hs ht hu hB hS
  have C0 := Lib.hid (fun (w : World) hs ht hu hB hS => isStateOn_any At Ak nt nk ct ck l m a b c d e W H x r y lt lr ld T Z u us w hs ht hu hB hS)
  cases hg0 : brdOk ⟨l, m, a, b, c, d, e⟩ W H lt lr ld && staOk ⟨l, m, a, b, c, d, e⟩ W H lt T Z us
  · rw [hg0] at C0
    clear hg0
    repeat (first | rw [Bool.true_and] | rw [Bool.and_true] | rw [Bool.false_and] | rw [Bool.and_false])
    go_enter Tryz.func20, Tryz.ntmps20
    go_wp2_with fail
    refine (C0.out _ (HSP.out.keep s0.2.2.2.2.2.2.2.2.2.2.2.2.2.2.2.2.2.2) (HT.out.keep s0.2.2.2.2.2.2.2.2.2.2.2.2.2.2.2.2.2.2) (HU.out.keep s0.2.2.2.2.2.2.2.2.2.2.2.2.2.2.2.2.2.2) (HB.out.keep s0.2.2.2.2.2.2.2.2.2.2.2.2.2.2.2.2.2.2) (HS.out.keep s0.2.2.2.2.2.2.2.2.2.2.2.2.2.2.2.2.2.2)).mono ?_
    rintro e1 w1 ⟨rfl, k1⟩
    have s1 := keepy18 k1 s0
    clear s0 k1
    go_wp2_with fail
    go_ret2
    exact ListPostI.no (s1.2.2.2.2.2.2.2.2.2.2.2.2.2.2.2.2.2.2)
  · rw [hg0] at C0
    have hok : brdOk ⟨l, m, a, b, c, d, e⟩ W H lt lr ld = true := by
      simp only [Bool.and_eq_true] at hg0
      exact hg0.1
    have hst : staOk ⟨l, m, a, b, c, d, e⟩ W H lt T Z us = true := by
      simp only [Bool.and_eq_true] at hg0
      exact hg0.2
    obtain ⟨p1, p2, p3, p4⟩ := mapOk_side (brdOk_map hok)
    have hlen := mapOk_len (brdOk_map hok)
    have CIX : Hid (∀ w, Calls Tryz.prog 58 #[mp W H x r y, .int .i64 i] w fun e' w' => e' = .returned (.bool (onI W H i)) ∧ Kp w w') := Lib.hid fun w => isIndex_any W H x r y i w p1 p2 p3 p4
    cases hg1 : onI W H i
    · rw [hg1] at CIX
      clear hg1 hok hst p1 p2 p3 p4 hlen hg0
      repeat (first | rw [Bool.true_and] | rw [Bool.and_true] | rw [Bool.false_and] | rw [Bool.and_false])
      go_enter Tryz.func20, Tryz.ntmps20
      go_wp2_with fail
      refine (C0.out _ (HSP.out.keep s0.2.2.2.2.2.2.2.2.2.2.2.2.2.2.2.2.2.2) (HT.out.keep s0.2.2.2.2.2.2.2.2.2.2.2.2.2.2.2.2.2.2) (HU.out.keep s0.2.2.2.2.2.2.2.2.2.2.2.2.2.2.2.2.2.2) (HB.out.keep s0.2.2.2.2.2.2.2.2.2.2.2.2.2.2.2.2.2.2) (HS.out.keep s0.2.2.2.2.2.2.2.2.2.2.2.2.2.2.2.2.2.2)).mono ?_
      rintro e1 w1 ⟨rfl, k1⟩
      have s1 := keepy18 k1 s0
      clear s0 k1
      go_wp2_with fail
      refine (CIX.out _).mono ?_
      rintro e2 w2 ⟨rfl, k2⟩
      have s2 := keepy18 k2 s1
      clear s1 k2
      go_wp2_with fail
      go_ret2
      exact ListPostI.no (s2.2.2.2.2.2.2.2.2.2.2.2.2.2.2.2.2.2.2)
    · rw [hg1] at CIX
      have HC := Lib.hid (fun (w0 : World) (hc : w0.cell? ⟨w.heap.size + 1 + 1, 0, none⟩ = some (.int .i64 i)) (hS : StaAt w0 u us) => unitsWhere_A #[.pointer (some ⟨w.heap.size + 1 + 1, 0, none⟩)] T Z u us (inHex i) w0 w0 hS (staOk_parts hst).2.1 (fun z hz w' k' => atClo_any (w.heap.size + 1 + 1) i z w' (k'.cell hc)) (Kp.refl _))
      generalize unL (inHex i) us us.length = R at HC ⊢
      clear hok hst p1 p2 p3 p4 hlen hg0 hg1
      repeat (first | rw [Bool.true_and] | rw [Bool.and_true] | rw [Bool.false_and] | rw [Bool.and_false])
      go_enter Tryz.func20, Tryz.ntmps20
      go_wp2_with fail
      refine (C0.out _ (HSP.out.keep s0.2.2.2.2.2.2.2.2.2.2.2.2.2.2.2.2.2.2) (HT.out.keep s0.2.2.2.2.2.2.2.2.2.2.2.2.2.2.2.2.2.2) (HU.out.keep s0.2.2.2.2.2.2.2.2.2.2.2.2.2.2.2.2.2.2) (HB.out.keep s0.2.2.2.2.2.2.2.2.2.2.2.2.2.2.2.2.2.2) (HS.out.keep s0.2.2.2.2.2.2.2.2.2.2.2.2.2.2.2.2.2.2)).mono ?_
      rintro e1 w1 ⟨rfl, k1⟩
      have s1 := keepy18 k1 s0
      clear s0 k1
      go_wp2_with fail
      refine (CIX.out _).mono ?_
      rintro e2 w2 ⟨rfl, k2⟩
      have s2 := keepy18 k2 s1
      clear s1 k2
      go_wp2_with fail
      refine (HC.out _ s2.2.2.2.2.2.2.2.2.2.2.2.2.2.2.2.2.2.1 (HS.out.keep s2.2.2.2.2.2.2.2.2.2.2.2.2.2.2.2.2.2.2)).mono ?_
      rintro e9 w9 ⟨v9, rfl, o9, k9⟩
      have hz9 := s2.2.2.2.2.2.2.2.2.2.2.2.2.2.2.2.2.2.2.size
      go_wp2_with fail
      go_ret2
      exact ⟨_, rfl, o9.base hz9, s2.2.2.2.2.2.2.2.2.2.2.2.2.2.2.2.2.2.2.trans k9⟩

set_option maxRecDepth 100000 in
set_option maxHeartbeats 4000000 in
theorem unitsOfP_any (At Ak : Option Addr) (nt nk ct ck : Nat) (l : List Ter) (m : List Knd) (a b c d e W H : Int) (x r y : Value) (lt lr ld : List Int) (T Z : Int) (u : Value) (us : List Uni) (sd : Int) (w : World) (hs : Spans w) (ht : Tab w) (hu : SpU w) (hB : BrdAt w At Ak nt nk l m x r y lt lr ld) (hS : StaAt w u us) :
    Calls Tryz.prog 29 #[bv (.slice At nt ct) (.slice Ak nk ck) a b c d e W H x r y, sv T Z u, .int .i64 sd] w (ListPostI ((brdOk ⟨l, m, a, b, c, d, e⟩ W H lt lr ld && staOk ⟨l, m, a, b, c, d, e⟩ W H lt T Z us) && spB 0 1 sd) (unL (ofSide sd) us us.length) w) := by
  have KA : Kp w (((w.alloc (.cells #[.slice At nt ct, .slice Ak nk ck, .int .i64 a, .int .i64 b, .int .i64 c, .int .i64 d, .int .i64 e, .int .i64 W, .int .i64 H, x, r, y] 44)).alloc (.cells #[.int .i64 T, .int .i64 Z, u] 48)).alloc (.cells #[.int .i64 sd] 3)) := (((Kp.refl w).alloc _).alloc _).alloc _
  have s0 : cb12 (((w.alloc (.cells #[.slice At nt ct, .slice Ak nk ck, .int .i64 a, .int .i64 b, .int .i64 c, .int .i64 d, .int .i64 e, .int .i64 W, .int .i64 H, x, r, y] 44)).alloc (.cells #[.int .i64 T, .int .i64 Z, u] 48)).alloc (.cells #[.int .i64 sd] 3)) (w.heap.size) (.slice At nt ct) (.slice Ak nk ck) (.int .i64 a) (.int .i64 b) (.int .i64 c) (.int .i64 d) (.int .i64 e) (.int .i64 W) (.int .i64 H) (x) (r) (y) (cb3 (((w.alloc (.cells #[.slice At nt ct, .slice Ak nk ck, .int .i64 a, .int .i64 b, .int .i64 c, .int .i64 d, .int .i64 e, .int .i64 W, .int .i64 H, x, r, y] 44)).alloc (.cells #[.int .i64 T, .int .i64 Z, u] 48)).alloc (.cells #[.int .i64 sd] 3)) (w.heap.size + 1) (.int .i64 T) (.int .i64 Z) (u) (cb2 (((w.alloc (.cells #[.slice At nt ct, .slice Ak nk ck, .int .i64 a, .int .i64 b, .int .i64 c, .int .i64 d, .int .i64 e, .int .i64 W, .int .i64 H, x, r, y] 44)).alloc (.cells #[.int .i64 T, .int .i64 Z, u] 48)).alloc (.cells #[.int .i64 sd] 3)) 0 (.int .i64 0) (.int .i64 1) ((((w.alloc (.cells #[.slice At nt ct, .slice Ak nk ck, .int .i64 a, .int .i64 b, .int .i64 c, .int .i64 d, .int .i64 e, .int .i64 W, .int .i64 H, x, r, y] 44)).alloc (.cells #[.int .i64 T, .int .i64 Z, u] 48)).alloc (.cells #[.int .i64 sd] 3)).cell? ⟨w.heap.size + 1 + 1, 0, none⟩ = some (.int .i64 sd) ∧ Kp w (((w.alloc (.cells #[.slice At nt ct, .slice Ak nk ck, .int .i64 a, .int .i64 b, .int .i64 c, .int .i64 d, .int .i64 e, .int .i64 W, .int .i64 H, x, r, y] 44)).alloc (.cells #[.int .i64 T, .int .i64 Z, u] 48)).alloc (.cells #[.int .i64 sd] 3))))) := ⟨by simp [go_sem], by simp [go_sem], by simp [go_sem], by simp [go_sem], by simp [go_sem], by simp [go_sem], by simp [go_sem], by simp [go_sem], by simp [go_sem], by simp [go_sem], by simp [go_sem], by simp [go_sem], by simp [go_sem], by simp [go_sem], by simp [go_sem], KA.cell hu.side.1, KA.cell hu.side.2, by simp [go_sem], KA⟩
  have HSP := Lib.hid hs
  have HT := Lib.hid ht
  have HU := Lib.hid hu
  have HB := Lib.hid hB
  have HS := Lib.hid hS
  clear hs ht hu hB hS
  have C0 := Lib.hid (fun (w : World) hs ht hu hB hS => isStateOn_any At Ak nt nk ct ck l m a b c d e W H x r y lt lr ld T Z u us w hs ht hu hB hS)
  cases hg0 : brdOk ⟨l, m, a, b, c, d, e⟩ W H lt lr ld && staOk ⟨l, m, a, b, c, d, e⟩ W H lt T Z us
  · rw [hg0] at C0
    clear hg0
    repeat (first | rw [Bool.true_and] | rw [Bool.and_true] | rw [Bool.false_and] | rw [Bool.and_false])
    go_enter Tryz.func29, Tryz.ntmps29
    go_wp2_with fail
    refine (C0.out _ (HSP.out.keep s0.2.2.2.2.2.2.2.2.2.2.2.2.2.2.2.2.2.2) (HT.out.keep s0.2.2.2.2.2.2.2.2.2.2.2.2.2.2.2.2.2.2) (HU.out.keep s0.2.2.2.2.2.2.2.2.2.2.2.2.2.2.2.2.2.2) (HB.out.keep s0.2.2.2.2.2.2.2.2.2.2.2.2.2.2.2.2.2.2) (HS.out.keep s0.2.2.2.2.2.2.2.2.2.2.2.2.2.2.2.2.2.2)).mono ?_
    rintro e1 w1 ⟨rfl, k1⟩
    have s1 := keepy18 k1 s0
    clear s0 k1
    go_wp2_with fail
    go_ret2
    exact ListPostI.no (s1.2.2.2.2.2.2.2.2.2.2.2.2.2.2.2.2.2.2)
  · rw [hg0] at C0
    have hok : brdOk ⟨l, m, a, b, c, d, e⟩ W H lt lr ld = true := by
      simp only [Bool.and_eq_true] at hg0
      exact hg0.1
    have hst : staOk ⟨l, m, a, b, c, d, e⟩ W H lt T Z us = true := by
      simp only [Bool.and_eq_true] at hg0
      exact hg0.2
    obtain ⟨p1, p2, p3, p4⟩ := mapOk_side (brdOk_map hok)
    have hlen := mapOk_len (brdOk_map hok)
    have CH : Hid (∀ w, Calls Tryz.prog 70 #[.agg #[.int .i64 0, .int .i64 1], .int .i64 sd] w fun e' w' => e' = .returned (.bool (spB 0 1 sd)) ∧ Kp w w') := Lib.hid fun w => has_any 0 1 sd w
    cases hg1 : spB 0 1 sd
    · rw [hg1] at CH
      clear hg1 hok hst p1 p2 p3 p4 hlen hg0
      repeat (first | rw [Bool.true_and] | rw [Bool.and_true] | rw [Bool.false_and] | rw [Bool.and_false])
      go_enter Tryz.func29, Tryz.ntmps29
      go_wp2_with fail
      refine (C0.out _ (HSP.out.keep s0.2.2.2.2.2.2.2.2.2.2.2.2.2.2.2.2.2.2) (HT.out.keep s0.2.2.2.2.2.2.2.2.2.2.2.2.2.2.2.2.2.2) (HU.out.keep s0.2.2.2.2.2.2.2.2.2.2.2.2.2.2.2.2.2.2) (HB.out.keep s0.2.2.2.2.2.2.2.2.2.2.2.2.2.2.2.2.2.2) (HS.out.keep s0.2.2.2.2.2.2.2.2.2.2.2.2.2.2.2.2.2.2)).mono ?_
      rintro e1 w1 ⟨rfl, k1⟩
      have s1 := keepy18 k1 s0
      clear s0 k1
      go_wp2_with fail
      refine (CH.out _).mono ?_
      rintro e2 w2 ⟨rfl, k2⟩
      have s2 := keepy18 k2 s1
      clear s1 k2
      go_wp2_with fail
      go_ret2
      exact ListPostI.no (s2.2.2.2.2.2.2.2.2.2.2.2.2.2.2.2.2.2.2)
    · rw [hg1] at CH
      have HC := Lib.hid (fun (w0 : World) (hc : w0.cell? ⟨w.heap.size + 1 + 1, 0, none⟩ = some (.int .i64 sd)) (hS : StaAt w0 u us) => unitsWhere_F #[.pointer (some ⟨w.heap.size + 1 + 1, 0, none⟩)] T Z u us (ofSide sd) w0 w0 hS (staOk_parts hst).2.1 (fun z hz w' k' => ofClo_any (w.heap.size + 1 + 1) sd z w' (k'.cell hc)) (Kp.refl _))
      generalize unL (ofSide sd) us us.length = R at HC ⊢
      clear hok hst p1 p2 p3 p4 hlen hg0 hg1
      repeat (first | rw [Bool.true_and] | rw [Bool.and_true] | rw [Bool.false_and] | rw [Bool.and_false])
      go_enter Tryz.func29, Tryz.ntmps29
      go_wp2_with fail
      refine (C0.out _ (HSP.out.keep s0.2.2.2.2.2.2.2.2.2.2.2.2.2.2.2.2.2.2) (HT.out.keep s0.2.2.2.2.2.2.2.2.2.2.2.2.2.2.2.2.2.2) (HU.out.keep s0.2.2.2.2.2.2.2.2.2.2.2.2.2.2.2.2.2.2) (HB.out.keep s0.2.2.2.2.2.2.2.2.2.2.2.2.2.2.2.2.2.2) (HS.out.keep s0.2.2.2.2.2.2.2.2.2.2.2.2.2.2.2.2.2.2)).mono ?_
      rintro e1 w1 ⟨rfl, k1⟩
      have s1 := keepy18 k1 s0
      clear s0 k1
      go_wp2_with fail
      refine (CH.out _).mono ?_
      rintro e2 w2 ⟨rfl, k2⟩
      have s2 := keepy18 k2 s1
      clear s1 k2
      go_wp2_with fail
      refine (HC.out _ s2.2.2.2.2.2.2.2.2.2.2.2.2.2.2.2.2.2.1 (HS.out.keep s2.2.2.2.2.2.2.2.2.2.2.2.2.2.2.2.2.2.2)).mono ?_
      rintro e9 w9 ⟨v9, rfl, o9, k9⟩
      have hz9 := s2.2.2.2.2.2.2.2.2.2.2.2.2.2.2.2.2.2.2.size
      go_wp2_with fail
      go_ret2
      exact ⟨_, rfl, o9.base hz9, s2.2.2.2.2.2.2.2.2.2.2.2.2.2.2.2.2.2.2.trans k9⟩

end Go.Proofs.YtncmjpgknckhjaaGreatDoor
