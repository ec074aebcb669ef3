/-
  IsSurrounded of the program. Nothing that was there is changed. The named variables hold what the program's text lays.
-/
import Derived.StillTailTactics
import Derived.Deep.Cut
import Derived.Test.YtiojmbbdcccokaaGreatDoorStp
import Derived.Test.YtiojmbbdcccokaaGreatDoorZnA
import Derived.Test.YtiojmbbdcccokaaGreatDoorQa
namespace Go.Proofs.YtiojmbbdcccokaaGreatDoor
open Go.RowKit

theorem keepe19 {W0 w w1 : World} {p0 p1 p2 p3 p4 p5 p6 p7 p8 p9 p10 p11 p12 p13 p14 p15 p16 p17 p18 : Addr} {v0 v1 v2 v3 v4 v5 v6 v7 v8 v9 v10 v11 v12 v13 v14 v15 v16 v17 v18 : Value} (k : Kp w w1) (h : w.cell? p0 = some v0 ∧ w.cell? p1 = some v1 ∧ w.cell? p2 = some v2 ∧ w.cell? p3 = some v3 ∧ w.cell? p4 = some v4 ∧ w.cell? p5 = some v5 ∧ w.cell? p6 = some v6 ∧ w.cell? p7 = some v7 ∧ w.cell? p8 = some v8 ∧ w.cell? p9 = some v9 ∧ w.cell? p10 = some v10 ∧ w.cell? p11 = some v11 ∧ w.cell? p12 = some v12 ∧ w.cell? p13 = some v13 ∧ w.cell? p14 = some v14 ∧ w.cell? p15 = some v15 ∧ w.cell? p16 = some v16 ∧ w.cell? p17 = some v17 ∧ w.cell? p18 = some v18 ∧ Kp W0 w) : w1.cell? p0 = some v0 ∧ w1.cell? p1 = some v1 ∧ w1.cell? p2 = some v2 ∧ w1.cell? p3 = some v3 ∧ w1.cell? p4 = some v4 ∧ w1.cell? p5 = some v5 ∧ w1.cell? p6 = some v6 ∧ w1.cell? p7 = some v7 ∧ w1.cell? p8 = some v8 ∧ w1.cell? p9 = some v9 ∧ w1.cell? p10 = some v10 ∧ w1.cell? p11 = some v11 ∧ w1.cell? p12 = some v12 ∧ w1.cell? p13 = some v13 ∧ w1.cell? p14 = some v14 ∧ w1.cell? p15 = some v15 ∧ w1.cell? p16 = some v16 ∧ w1.cell? p17 = some v17 ∧ w1.cell? p18 = some v18 ∧ Kp W0 w1 :=
  ⟨k.cell h.1, k.cell h.2.1, k.cell h.2.2.1, k.cell h.2.2.2.1, k.cell h.2.2.2.2.1, k.cell h.2.2.2.2.2.1, k.cell h.2.2.2.2.2.2.1, k.cell h.2.2.2.2.2.2.2.1, k.cell h.2.2.2.2.2.2.2.2.1, k.cell h.2.2.2.2.2.2.2.2.2.1, k.cell h.2.2.2.2.2.2.2.2.2.2.1, k.cell h.2.2.2.2.2.2.2.2.2.2.2.1, k.cell h.2.2.2.2.2.2.2.2.2.2.2.2.1, k.cell h.2.2.2.2.2.2.2.2.2.2.2.2.2.1, k.cell h.2.2.2.2.2.2.2.2.2.2.2.2.2.2.1, k.cell h.2.2.2.2.2.2.2.2.2.2.2.2.2.2.2.1, k.cell h.2.2.2.2.2.2.2.2.2.2.2.2.2.2.2.2.1, k.cell h.2.2.2.2.2.2.2.2.2.2.2.2.2.2.2.2.2.1, k.cell h.2.2.2.2.2.2.2.2.2.2.2.2.2.2.2.2.2.2.1, h.2.2.2.2.2.2.2.2.2.2.2.2.2.2.2.2.2.2.2.trans k⟩
theorem drewe19 {W0 w : World} {p0 p1 p2 p3 p4 p5 p6 p7 p8 p9 p10 p11 p12 p13 p14 p15 p16 p17 p18 : Addr} {v0 v1 v2 v3 v4 v5 v6 v7 v8 v9 v10 v11 v12 v13 v14 v15 v16 v17 v18 : Value} (h : w.cell? p0 = some v0 ∧ w.cell? p1 = some v1 ∧ w.cell? p2 = some v2 ∧ w.cell? p3 = some v3 ∧ w.cell? p4 = some v4 ∧ w.cell? p5 = some v5 ∧ w.cell? p6 = some v6 ∧ w.cell? p7 = some v7 ∧ w.cell? p8 = some v8 ∧ w.cell? p9 = some v9 ∧ w.cell? p10 = some v10 ∧ w.cell? p11 = some v11 ∧ w.cell? p12 = some v12 ∧ w.cell? p13 = some v13 ∧ w.cell? p14 = some v14 ∧ w.cell? p15 = some v15 ∧ w.cell? p16 = some v16 ∧ w.cell? p17 = some v17 ∧ w.cell? p18 = some v18 ∧ Kp W0 w) : w.drew.cell? p0 = some v0 ∧ w.drew.cell? p1 = some v1 ∧ w.drew.cell? p2 = some v2 ∧ w.drew.cell? p3 = some v3 ∧ w.drew.cell? p4 = some v4 ∧ w.drew.cell? p5 = some v5 ∧ w.drew.cell? p6 = some v6 ∧ w.drew.cell? p7 = some v7 ∧ w.drew.cell? p8 = some v8 ∧ w.drew.cell? p9 = some v9 ∧ w.drew.cell? p10 = some v10 ∧ w.drew.cell? p11 = some v11 ∧ w.drew.cell? p12 = some v12 ∧ w.drew.cell? p13 = some v13 ∧ w.drew.cell? p14 = some v14 ∧ w.drew.cell? p15 = some v15 ∧ w.drew.cell? p16 = some v16 ∧ w.drew.cell? p17 = some v17 ∧ w.drew.cell? p18 = some v18 ∧ Kp W0 w.drew :=
  ⟨h.1, h.2.1, h.2.2.1, h.2.2.2.1, h.2.2.2.2.1, h.2.2.2.2.2.1, h.2.2.2.2.2.2.1, h.2.2.2.2.2.2.2.1, h.2.2.2.2.2.2.2.2.1, h.2.2.2.2.2.2.2.2.2.1, h.2.2.2.2.2.2.2.2.2.2.1, h.2.2.2.2.2.2.2.2.2.2.2.1, h.2.2.2.2.2.2.2.2.2.2.2.2.1, h.2.2.2.2.2.2.2.2.2.2.2.2.2.1, h.2.2.2.2.2.2.2.2.2.2.2.2.2.2.1, h.2.2.2.2.2.2.2.2.2.2.2.2.2.2.2.1, h.2.2.2.2.2.2.2.2.2.2.2.2.2.2.2.2.1, h.2.2.2.2.2.2.2.2.2.2.2.2.2.2.2.2.2.1, h.2.2.2.2.2.2.2.2.2.2.2.2.2.2.2.2.2.2.1, h.2.2.2.2.2.2.2.2.2.2.2.2.2.2.2.2.2.2.2.drew⟩

set_option maxRecDepth 100000 in
set_option maxHeartbeats 4000000 in
theorem isSurroundedP_any (At Ak : Option Addr) (nt nk ct ck : Nat) (l : List Ter) (m : List Knd) (a b c d e W H : Int) (x r y : Value) (lt lr ld : List Int) (T Z : Int) (u : Value) (us : List Uni) (un : Int) (w : World) (hs : Spans w) (ht : Tab w) (hu : SpU w) (hB : BrdAt w At Ak nt nk l m x r y lt lr ld) (hS : StaAt w u us) :
    Calls Tryz.prog 25 #[bv (.slice At nt ct) (.slice Ak nk ck) a b c d e W H x r y, sv T Z u, .int .i64 un] w fun e' w' => e' = .returned (.tuple #[.bool ((((brdOk ⟨l, m, a, b, c, d, e⟩ W H lt lr ld && staOk ⟨l, m, a, b, c, d, e⟩ W H lt T Z us) && inB un us.length) && decide (0 ≤ (unN us un).a)) && surB l m lt lr ld W H us (unN us un)), .bool (((brdOk ⟨l, m, a, b, c, d, e⟩ W H lt lr ld && staOk ⟨l, m, a, b, c, d, e⟩ W H lt T Z us) && inB un us.length) && decide (0 ≤ (unN us un).a))]) ∧ Kp w w' := by
  have KA : Kp w ((w.alloc (.cells #[.slice At nt ct, .slice Ak nk ck, .int .i64 a, .int .i64 b, .int .i64 c, .int .i64 d, .int .i64 e, .int .i64 W, .int .i64 H, x, r, y] 44)).alloc (.cells #[.int .i64 T, .int .i64 Z, u] 48)) := ((Kp.refl w).alloc _).alloc _
  have s0 : cb12 ((w.alloc (.cells #[.slice At nt ct, .slice Ak nk ck, .int .i64 a, .int .i64 b, .int .i64 c, .int .i64 d, .int .i64 e, .int .i64 W, .int .i64 H, x, r, y] 44)).alloc (.cells #[.int .i64 T, .int .i64 Z, u] 48)) (w.heap.size) (.slice At nt ct) (.slice Ak nk ck) (.int .i64 a) (.int .i64 b) (.int .i64 c) (.int .i64 d) (.int .i64 e) (.int .i64 W) (.int .i64 H) (x) (r) (y) (cb3 ((w.alloc (.cells #[.slice At nt ct, .slice Ak nk ck, .int .i64 a, .int .i64 b, .int .i64 c, .int .i64 d, .int .i64 e, .int .i64 W, .int .i64 H, x, r, y] 44)).alloc (.cells #[.int .i64 T, .int .i64 Z, u] 48)) (w.heap.size + 1) (.int .i64 T) (.int .i64 Z) (u) (Kp w ((w.alloc (.cells #[.slice At nt ct, .slice Ak nk ck, .int .i64 a, .int .i64 b, .int .i64 c, .int .i64 d, .int .i64 e, .int .i64 W, .int .i64 H, x, r, y] 44)).alloc (.cells #[.int .i64 T, .int .i64 Z, u] 48)))) := ⟨by simp [go_sem], by simp [go_sem], by simp [go_sem], by simp [go_sem], by simp [go_sem], by simp [go_sem], by simp [go_sem], by simp [go_sem], by simp [go_sem], by simp [go_sem], by simp [go_sem], by simp [go_sem], by simp [go_sem], by simp [go_sem], by simp [go_sem], KA⟩
  have HSP := Lib.hid hs
  have HT := Lib.hid ht
  have HU := Lib.hid hu
  have HB := Lib.hid hB
  have HS := Lib.hid hS
  clear hB hs ht hu
  have CUN := Lib.hid (fun (w : World) hs ht hu hB hS => isUnitOn_any At Ak nt nk ct ck l m a b c d e W H x r y lt lr ld T Z u us un w hs ht hu hB hS)
  cases hg0 : (brdOk ⟨l, m, a, b, c, d, e⟩ W H lt lr ld && staOk ⟨l, m, a, b, c, d, e⟩ W H lt T Z us) && inB un us.length
  · rw [hg0] at CUN
    clear hg0 hS
    repeat (first | rw [Bool.true_and] | rw [Bool.and_true] | rw [Bool.false_and] | rw [Bool.and_false])
    go_enter Tryz.func25, Tryz.ntmps25
    go_wp2_with fail
    refine (CUN.out _ (HSP.out.keep KA) (HT.out.keep KA) (HU.out.keep KA) (HB.out.keep KA) (HS.out.keep KA)).mono ?_
    rintro e1 w1 ⟨rfl, k1⟩
    go_wp2_with fail
    go_ret2
    exact ⟨rfl, KA.trans k1⟩
  rw [hg0] at CUN
  have hok : brdOk ⟨l, m, a, b, c, d, e⟩ W H lt lr ld = true := by
    simp only [Bool.and_eq_true] at hg0
    exact hg0.1.1
  have hst : staOk ⟨l, m, a, b, c, d, e⟩ W H lt T Z us = true := by
    simp only [Bool.and_eq_true] at hg0
    exact hg0.1.2
  obtain ⟨p1, p2, p3, p4⟩ := mapOk_side (brdOk_map hok)
  have hlen := mapOk_len (brdOk_map hok)
  have hun : inB un us.length = true := by
    simp only [Bool.and_eq_true] at hg0
    exact hg0.2
  obtain ⟨k, rfl, hk, hz⟩ := unN_of hun
  clear hun hg0 s0 KA
  generalize unN us (k : Int) = zz at hz ⊢
  obtain ⟨sx, kx, ax, tx⟩ := zz
  have hu : uniOk l m W H lt ⟨sx, kx, ax, tx⟩ = true := (staOk_parts hst).2.2.1 _ (List.mem_of_getElem? hz)
  have hss := (uniOk_side hu).1
  simp only at hss
  obtain ⟨j, kd, e1, hj, _, _⟩ := uniOk_kind hu
  simp only at e1
  subst e1
  obtain ⟨A, cp, rfl, h⟩ := hS.rd
  obtain ⟨gu, ou, rfl, hc⟩ := h (by omega)
  obtain ⟨q0, q1, q2, q3⟩ := hc k _ hz
  simp only at q0 q1 q2 q3
  obtain ⟨N, hN⟩ : ∃ N, N = us.length := ⟨_, rfl⟩
  rw [← hN] at hk HS CUN ⊢
  have hk' : (k : Int) < N := by omega
  have KA : Kp w ((w.alloc (.cells #[.slice At nt ct, .slice Ak nk ck, .int .i64 a, .int .i64 b, .int .i64 c, .int .i64 d, .int .i64 e, .int .i64 W, .int .i64 H, x, r, y] 44)).alloc (.cells #[.int .i64 T, .int .i64 Z, .slice (some ⟨gu, ou, none⟩) N cp] 48)) := ((Kp.refl w).alloc _).alloc _
  have s0 : cb12 ((w.alloc (.cells #[.slice At nt ct, .slice Ak nk ck, .int .i64 a, .int .i64 b, .int .i64 c, .int .i64 d, .int .i64 e, .int .i64 W, .int .i64 H, x, r, y] 44)).alloc (.cells #[.int .i64 T, .int .i64 Z, .slice (some ⟨gu, ou, none⟩) N cp] 48)) (w.heap.size) (.slice At nt ct) (.slice Ak nk ck) (.int .i64 a) (.int .i64 b) (.int .i64 c) (.int .i64 d) (.int .i64 e) (.int .i64 W) (.int .i64 H) (x) (r) (y) (cb3 ((w.alloc (.cells #[.slice At nt ct, .slice Ak nk ck, .int .i64 a, .int .i64 b, .int .i64 c, .int .i64 d, .int .i64 e, .int .i64 W, .int .i64 H, x, r, y] 44)).alloc (.cells #[.int .i64 T, .int .i64 Z, .slice (some ⟨gu, ou, none⟩) N cp] 48)) (w.heap.size + 1) (.int .i64 T) (.int .i64 Z) (.slice (some ⟨gu, ou, none⟩) N cp) (((w.alloc (.cells #[.slice At nt ct, .slice Ak nk ck, .int .i64 a, .int .i64 b, .int .i64 c, .int .i64 d, .int .i64 e, .int .i64 W, .int .i64 H, x, r, y] 44)).alloc (.cells #[.int .i64 T, .int .i64 Z, .slice (some ⟨gu, ou, none⟩) N cp] 48)).cell? ⟨gu, ou + k * 4, none⟩ = some (.int .i64 sx) ∧ ((w.alloc (.cells #[.slice At nt ct, .slice Ak nk ck, .int .i64 a, .int .i64 b, .int .i64 c, .int .i64 d, .int .i64 e, .int .i64 W, .int .i64 H, x, r, y] 44)).alloc (.cells #[.int .i64 T, .int .i64 Z, .slice (some ⟨gu, ou, none⟩) N cp] 48)).cell? ⟨gu, ou + k * 4 + 1, none⟩ = some (.int .i64 (j : Int)) ∧ ((w.alloc (.cells #[.slice At nt ct, .slice Ak nk ck, .int .i64 a, .int .i64 b, .int .i64 c, .int .i64 d, .int .i64 e, .int .i64 W, .int .i64 H, x, r, y] 44)).alloc (.cells #[.int .i64 T, .int .i64 Z, .slice (some ⟨gu, ou, none⟩) N cp] 48)).cell? ⟨gu, ou + k * 4 + 2, none⟩ = some (.int .i64 ax) ∧ ((w.alloc (.cells #[.slice At nt ct, .slice Ak nk ck, .int .i64 a, .int .i64 b, .int .i64 c, .int .i64 d, .int .i64 e, .int .i64 W, .int .i64 H, x, r, y] 44)).alloc (.cells #[.int .i64 T, .int .i64 Z, .slice (some ⟨gu, ou, none⟩) N cp] 48)).cell? ⟨gu, ou + k * 4 + 3, none⟩ = some (.int .i64 tx) ∧ Kp w ((w.alloc (.cells #[.slice At nt ct, .slice Ak nk ck, .int .i64 a, .int .i64 b, .int .i64 c, .int .i64 d, .int .i64 e, .int .i64 W, .int .i64 H, x, r, y] 44)).alloc (.cells #[.int .i64 T, .int .i64 Z, .slice (some ⟨gu, ou, none⟩) N cp] 48)))) := ⟨by simp [go_sem], by simp [go_sem], by simp [go_sem], by simp [go_sem], by simp [go_sem], by simp [go_sem], by simp [go_sem], by simp [go_sem], by simp [go_sem], by simp [go_sem], by simp [go_sem], by simp [go_sem], by simp [go_sem], by simp [go_sem], by simp [go_sem], KA.cell q0, KA.cell q1, KA.cell q2, KA.cell q3, KA⟩
  clear q0 q1 q2 q3 h hc hS
  by_cases ha : ax = -1
  · subst ha
    have hd : decide (0 ≤ (Uni.mk sx (j : Int) (-1) tx).a) = false := by simp
    rw [hd, Bool.and_false, Bool.false_and]
    clear hd hok hst p1 p2 p3 p4 hlen hz hu hss hj hN
    go_enter Tryz.func25, Tryz.ntmps25
    go_wp2_with fail
    refine (CUN.out _ (HSP.out.keep KA) (HT.out.keep KA) (HU.out.keep KA) (HB.out.keep KA) (HS.out.keep KA)).mono ?_
    rintro e1 w1 ⟨rfl, k1⟩
    have s1 := keepe19 k1 s0
    clear s0 k1
    go_wp2_with fail
    refine (onMap_no _ _ _ _).mono ?_
    rintro e2 w2 ⟨rfl, k2⟩
    have s2 := keepe19 k2 s1
    clear s1 k2
    go_wp2_with fail
    go_ret2
    exact ⟨rfl, s2.2.2.2.2.2.2.2.2.2.2.2.2.2.2.2.2.2.2.2⟩
  · have hax : onI W H ax = true := uniOk_on hu ha
    have hax0 := (onI_true hax).1
    have hd : decide (0 ≤ (Uni.mk sx (j : Int) ax tx).a) = true := by simpa using hax0
    rw [hd, Bool.and_true]
    have CF : Hid (∀ w, Tab w → BrdAt w At Ak nt nk l m x r y lt lr ld → StaAt w (.slice (some ⟨gu, ou, none⟩) N cp) us → Calls Tryz.prog 58 #[bv (.slice At nt ct) (.slice Ak nk ck) a b c d e W H x r y, sv T Z (.slice (some ⟨gu, ou, none⟩) N cp), .int .i64 (k : Int), .int .i64 ax] w fun e' w' => ∃ v, e' = .returned v ∧ OwnM w' w.heap.size v (stL (fun q : Nat => nbM W H ax (q : Int)) (fun q : Nat => [.int .i64 sx, .int .i64 (j : Int), .int .i64 ax, .int .i64 tx, .slice At nt ct, .slice Ak nk ck, .int .i64 a, .int .i64 b, .int .i64 c, .int .i64 d, .int .i64 e, .int .i64 W, .int .i64 H, x, r, y, .int .i64 T, .int .i64 Z, .slice (some ⟨gu, ou, none⟩) N cp, .int .i64 (1 - sx), .int .i64 ax, .int .i64 (nbI W ax (q : Int))]) (fun q : Nat => stpB l lt us ⟨sx, (j : Int), ax, tx⟩ (nbI W ax (q : Int)) && !zonB l m lt lr ld W us (1 - sx) (nbI W ax (q : Int))) 6) ∧ Kp w w') := Lib.hid fun w ht hB hS => stepsFrom_any At Ak nt nk ct ck l m a b c d e W H x r y lt lr ld T Z (.slice (some ⟨gu, ou, none⟩) N cp) us k sx (j : Int) ax tx ax (fun q : Nat => stpB l lt us ⟨sx, (j : Int), ax, tx⟩ (nbI W ax (q : Int)) && !zonB l m lt lr ld W us (1 - sx) (nbI W ax (q : Int))) w ht hB hS hz hss p1 p2 p3 p4 hax
    have CE : Hid (∀ z ∈ stL (fun q : Nat => nbM W H ax (q : Int)) (fun q : Nat => [.int .i64 sx, .int .i64 (j : Int), .int .i64 ax, .int .i64 tx, .slice At nt ct, .slice Ak nk ck, .int .i64 a, .int .i64 b, .int .i64 c, .int .i64 d, .int .i64 e, .int .i64 W, .int .i64 H, x, r, y, .int .i64 T, .int .i64 Z, .slice (some ⟨gu, ou, none⟩) N cp, .int .i64 (1 - sx), .int .i64 ax, .int .i64 (nbI W ax (q : Int))]) (fun q : Nat => stpB l lt us ⟨sx, (j : Int), ax, tx⟩ (nbI W ax (q : Int)) && !zonB l m lt lr ld W us (1 - sx) (nbI W ax (q : Int))) 6, ∀ w, Tab w → BrdAt w At Ak nt nk l m x r y lt lr ld → StaAt w (.slice (some ⟨gu, ou, none⟩) N cp) us → Calls Tryz.prog 59 (#[.agg z.1.toArray] ++ #[]) w fun e' w' => e' = .returned (.bool z.2) ∧ Kp w w') := Lib.hid fun z hz2 w ht hB hS => by
      obtain ⟨q, hq, hb, rfl⟩ := stL_mem hz2
      have hb' : nbM W H ax (q : Int) = true := hb
      have hnb : nbB W H ax (q : Int) = true := by unfold nbB; rw [hax, dirB_mk (by omega) (by omega), hb']; rfl
      obtain ⟨_, _, n0, n1⟩ := nbB_true hnb
      obtain ⟨n, hn, hn'⟩ := onI_at (onI_mk n0 n1) hlen
      obtain ⟨i', hi1, hi'⟩ := onI_at hax hlen
      have h5 := escape_any At Ak nt nk ct ck l m a b c d e W H x r y lt lr ld T Z (.slice (some ⟨gu, ou, none⟩) N cp) us sx ax tx (1 - sx) j i' n w ht hB hS hok hst hj hi' hn'
      rw [Array.append_empty]
      show Calls Tryz.prog 59 #[.agg #[.int .i64 sx, .int .i64 (j : Int), .int .i64 ax, .int .i64 tx, .slice At nt ct, .slice Ak nk ck, .int .i64 a, .int .i64 b, .int .i64 c, .int .i64 d, .int .i64 e, .int .i64 W, .int .i64 H, x, r, y, .int .i64 T, .int .i64 Z, .slice (some ⟨gu, ou, none⟩) N cp, .int .i64 (1 - sx), .int .i64 ax, .int .i64 (nbI W ax (q : Int))]] w fun e' w' => e' = .returned (.bool (stpB l lt us ⟨sx, (j : Int), ax, tx⟩ (nbI W ax (q : Int)) && !zonB l m lt lr ld W us (1 - sx) (nbI W ax (q : Int)))) ∧ Kp w w'
      have e1 : stpB l lt us ⟨sx, (j : Int), ax, tx⟩ (n : Int) = (opnB l lt j n && !(ownN us n == 1 - sx)) := by
        unfold stpB
        simp only [Int.toNat_natCast]
        congr 1
        rw [Bool.eq_iff_iff]
        simp
      rw [hn, e1, Bool.and_assoc]
      rw [← hi1] at h5
      exact h5
    have HX : Hid (surB l m lt lr ld W H us ⟨sx, (j : Int), ax, tx⟩ = !((stL (fun q : Nat => nbM W H ax (q : Int)) (fun q : Nat => [.int .i64 sx, .int .i64 (j : Int), .int .i64 ax, .int .i64 tx, .slice At nt ct, .slice Ak nk ck, .int .i64 a, .int .i64 b, .int .i64 c, .int .i64 d, .int .i64 e, .int .i64 W, .int .i64 H, x, r, y, .int .i64 T, .int .i64 Z, .slice (some ⟨gu, ou, none⟩) N cp, .int .i64 (1 - sx), .int .i64 ax, .int .i64 (nbI W ax (q : Int))]) (fun q : Nat => stpB l lt us ⟨sx, (j : Int), ax, tx⟩ (nbI W ax (q : Int)) && !zonB l m lt lr ld W us (1 - sx) (nbI W ax (q : Int))) 6).any fun z => z.2)) := Lib.hid (by
      unfold surB
      rw [stL_any]
      rfl)
    rw [HX.out]
    have hl6 := stL_len (fun q : Nat => nbM W H ax (q : Int)) (fun q : Nat => [.int .i64 sx, .int .i64 (j : Int), .int .i64 ax, .int .i64 tx, .slice At nt ct, .slice Ak nk ck, .int .i64 a, .int .i64 b, .int .i64 c, .int .i64 d, .int .i64 e, .int .i64 W, .int .i64 H, x, r, y, .int .i64 T, .int .i64 Z, .slice (some ⟨gu, ou, none⟩) N cp, .int .i64 (1 - sx), .int .i64 ax, .int .i64 (nbI W ax (q : Int))]) (fun q : Nat => stpB l lt us ⟨sx, (j : Int), ax, tx⟩ (nbI W ax (q : Int)) && !zonB l m lt lr ld W us (1 - sx) (nbI W ax (q : Int))) 6
    generalize stL (fun q : Nat => nbM W H ax (q : Int)) (fun q : Nat => [.int .i64 sx, .int .i64 (j : Int), .int .i64 ax, .int .i64 tx, .slice At nt ct, .slice Ak nk ck, .int .i64 a, .int .i64 b, .int .i64 c, .int .i64 d, .int .i64 e, .int .i64 W, .int .i64 H, x, r, y, .int .i64 T, .int .i64 Z, .slice (some ⟨gu, ou, none⟩) N cp, .int .i64 (1 - sx), .int .i64 ax, .int .i64 (nbI W ax (q : Int))]) (fun q : Nat => stpB l lt us ⟨sx, (j : Int), ax, tx⟩ (nbI W ax (q : Int)) && !zonB l m lt lr ld W us (1 - sx) (nbI W ax (q : Int))) 6 = L at CF CE hl6 ⊢
    generalize hRB : (L.any fun z => z.2) = RB
    have HRB := Lib.hid hRB
    clear HX hd hok hst p1 p2 p3 p4 hlen hz hu hss hj hN hax hax0 hRB
    repeat (first | rw [Bool.true_and] | rw [Bool.and_true] | rw [Bool.false_and] | rw [Bool.and_false])
    go_enter Tryz.func25, Tryz.ntmps25
    go_wp2_with fail
    refine (CUN.out _ (HSP.out.keep KA) (HT.out.keep KA) (HU.out.keep KA) (HB.out.keep KA) (HS.out.keep KA)).mono ?_
    rintro e1 w1 ⟨rfl, k1⟩
    have s1 := keepe19 k1 s0
    clear s0 k1
    go_wp2_with fail
    refine (onMap_yes _ _ _ _ _ ha).mono ?_
    rintro e2 w2 ⟨rfl, k2⟩
    have s2 := keepe19 k2 s1
    clear s1 k2
    go_upto_region 3 with (fail)
    have s3 := drewe19 s2
    clear s2
    refine wp_region_held_drew (S := (fun w' => cb12 w' (w.heap.size) (.slice At nt ct) (.slice Ak nk ck) (.int .i64 a) (.int .i64 b) (.int .i64 c) (.int .i64 d) (.int .i64 e) (.int .i64 W) (.int .i64 H) (x) (r) (y) (cb3 w' (w.heap.size + 1) (.int .i64 T) (.int .i64 Z) (.slice (some ⟨gu, ou, none⟩) N cp) (w'.cell? ⟨gu, ou + k * 4, none⟩ = some (.int .i64 sx) ∧ w'.cell? ⟨gu, ou + k * 4 + 1, none⟩ = some (.int .i64 (j : Int)) ∧ w'.cell? ⟨gu, ou + k * 4 + 2, none⟩ = some (.int .i64 ax) ∧ w'.cell? ⟨gu, ou + k * 4 + 3, none⟩ = some (.int .i64 tx) ∧ Kp w w')))) (by kernel_rfl) ?_ (fun hHeld => ?_)
    · assumption
    generalize w2.drew = V at *
    refine tk 0 ⟨some 22, _, _, _, _, _⟩ ?_ rfl (by kernel_rfl) (fun _ _ _ h => h) (by rfl) ?_ (by assumption) ?_
    rotate_left
    · intro w hSw; (try dsimp only at hSw); go_simp; (all_goals with_reducible rfl)
    try simp only [Act.put, sA, sB, sC]
    refine tk 1 ⟨some 23, _, _, _, _, _⟩ ?_ rfl (by kernel_rfl) (fun _ _ _ h => h) (by rfl) ?_ (by assumption) ?_
    rotate_left
    · intro w hSw; (try dsimp only at hSw); go_simp; (all_goals with_reducible rfl)
    try simp only [Act.put, sA, sB, sC]
    refine tk 2 ⟨some 24, _, _, _, _, _⟩ ?_ rfl (by kernel_rfl) (fun _ _ _ h => h) (by rfl) ?_ (by assumption) ?_
    rotate_left
    · intro w hSw; (try dsimp only at hSw); go_simp; (all_goals with_reducible rfl)
    try simp only [Act.put, sA, sB, sC]
    refine tk 3 ⟨some 25, _, _, _, _, _⟩ ?_ rfl (by kernel_rfl) (fun _ _ _ h => h) (by rfl) ?_ (by assumption) ?_
    rotate_left
    · intro w hSw; (try dsimp only at hSw); go_simp; (all_goals with_reducible rfl)
    try simp only [Act.put, sA, sB, sC]
    refine tk 4 ⟨some 26, _, _, _, _, _⟩ ?_ rfl (by kernel_rfl) (fun _ _ _ h => h) (by rfl) ?_ (by assumption) ?_
    rotate_left
    · intro w hSw; (try dsimp only at hSw); go_simp; (all_goals with_reducible rfl)
    try simp only [Act.put, sA, sB, sC]
    refine tk 5 ⟨some 27, _, _, _, _, _⟩ ?_ rfl (by kernel_rfl) (fun _ _ _ h => h) (by rfl) ?_ (by assumption) ?_
    rotate_left
    · intro w hSw; (try dsimp only at hSw); go_simp; (all_goals with_reducible rfl)
    try simp only [Act.put, sA, sB, sC]
    refine tk 6 ⟨some 28, _, _, _, _, _⟩ ?_ rfl (by kernel_rfl) (fun _ _ _ h => h) (by rfl) ?_ (by assumption) ?_
    rotate_left
    · intro w hSw; (try dsimp only at hSw); go_simp; (all_goals with_reducible rfl)
    try simp only [Act.put, sA, sB, sC]
    refine tk 7 ⟨some 29, _, _, _, _, _⟩ ?_ rfl (by kernel_rfl) (fun _ _ _ h => h) (by rfl) ?_ (by assumption) ?_
    rotate_left
    · intro w hSw; (try dsimp only at hSw); go_simp; (all_goals with_reducible rfl)
    try simp only [Act.put, sA, sB, sC]
    refine tk 8 ⟨some 30, _, _, _, _, _⟩ ?_ rfl (by kernel_rfl) (fun _ _ _ h => h) (by rfl) ?_ (by assumption) ?_
    rotate_left
    · intro w hSw; (try dsimp only at hSw); go_simp; (all_goals with_reducible rfl)
    try simp only [Act.put, sA, sB, sC]
    refine wpAnyH_ready (rs := [9]) (by kernel_rfl) (by simp) ?_
    refine (AllReadyH.cons (o := ⟨some 31, _, _, _, _, _⟩) rfl (fun K hK => ?_) AllReadyH.nil)
    go_simp
    refine (CF.out _ (HT.out.keep hHeld.2.2.2.2.2.2.2.2.2.2.2.2.2.2.2.2.2.2.2) (HB.out.keep hHeld.2.2.2.2.2.2.2.2.2.2.2.2.2.2.2.2.2.2.2) (HS.out.keep hHeld.2.2.2.2.2.2.2.2.2.2.2.2.2.2.2.2.2.2.2)).mono ?_
    rintro e4 w4 ⟨v4, rfl, o4, k4⟩
    have s4 := keepe19 k4 hHeld
    have R4 := Lib.hid o4.rd
    have H4 := Lib.hid o4.1
    clear o4
    go_wp2_with fail
    refine hK.out _ _ ?_ (fun hHeld => ?_)
    · (try dsimp only); (first | assumption)
    clear hK K
    try simp only [Act.put, sA, sB, sC]
    refine wpAnyH_ready (rs := [10]) (by kernel_rfl) (by simp) ?_
    refine (AllReadyH.cons (o := ⟨some 32, _, _, _, _, _⟩) rfl (fun K hK => ?_) AllReadyH.nil)
    go_simp
    have CM := containsM_any 59 #[] L v4 w4 w4 (fun z hz w' k' => CE.out z hz w' (HT.out.keep (s4.2.2.2.2.2.2.2.2.2.2.2.2.2.2.2.2.2.2.2.trans k')) (HB.out.keep (s4.2.2.2.2.2.2.2.2.2.2.2.2.2.2.2.2.2.2.2.trans k')) (HS.out.keep (s4.2.2.2.2.2.2.2.2.2.2.2.2.2.2.2.2.2.2.2.trans k'))) rfl (Kp.refl _) H4.out R4.out (by omega)
    rw [HRB.out] at CM
    refine CM.mono ?_
    rintro e5 w5 ⟨rfl, k5⟩
    have s5 := keepe19 k5 hHeld
    go_wp2_with fail
    refine hK.out _ _ ?_ (fun hHeld => ?_)
    · (try dsimp only); (first | assumption)
    clear hK K
    try simp only [Act.put, sA, sB, sC]
    refine tk 11 ⟨some 33, _, _, _, _, _⟩ ?_ rfl (by kernel_rfl) (fun _ _ _ h => h) (by rfl) ?_ (by assumption) ?_
    rotate_left
    · intro w hSw; (try dsimp only at hSw); go_simp; (all_goals with_reducible rfl)
    try simp only [Act.put, sA, sB, sC]
    refine tk 12 ⟨some 6, _, _, _, _, _⟩ ?_ rfl (by kernel_rfl) (fun _ _ _ h => h) (by rfl) ?_ (by assumption) ?_
    rotate_left
    · intro w hSw; (try dsimp only at hSw); go_simp; (all_goals with_reducible rfl)
    try simp only [Act.put, sA, sB, sC]
    refine tk 13 ⟨some 7, _, _, _, _, _⟩ ?_ rfl (by kernel_rfl) (fun _ _ _ h => h) (by rfl) ?_ (by assumption) ?_
    rotate_left
    · intro w hSw; (try dsimp only at hSw); go_simp; (all_goals with_reducible rfl)
    try simp only [Act.put, sA, sB, sC]
    refine wpAnyH_done (by kernel_rfl) ?_ _
    go_wp2_with fail
    go_ret2
    exact ⟨rfl, hHeld.2.2.2.2.2.2.2.2.2.2.2.2.2.2.2.2.2.2.2⟩

end Go.Proofs.YtiojmbbdcccokaaGreatDoor
