/-
  IsSurrounded of the reference. Nothing that was there is changed.
-/
import Derived.Test.YtiojmbbdcccokaaGreatDoorZsZ
import Derived.Test.YtiojmbbdcccokaaGreatDoorQa
import Derived.Test.YtiojmbbdcccokaaGreatDoorQa
namespace Go.Proofs.YtiojmbbdcccokaaGreatDoor
open Go.RowKit


set_option maxRecDepth 100000 in
set_option maxHeartbeats 4000000 in
theorem specIsSurrounded_any (At Ak : Option Addr) (nt nk ct ck : Nat) (l : List Ter) (m : List Knd) (a b c d e W H : Int) (x r y : Value) (lt lr ld : List Int) (T Z : Int) (u : Value) (us : List Uni) (un : Int) (w : World) (hB : BrdAt w At Ak nt nk l m x r y lt lr ld) (hS : StaAt w u us) :
    Calls Tryz.prog 24 #[bv (.slice At nt ct) (.slice Ak nk ck) a b c d e W H x r y, sv T Z u, .int .i64 un] w fun e' w' => e' = .returned (.tuple #[.bool ((((brdOk ⟨l, m, a, b, c, d, e⟩ W H lt lr ld && staOk ⟨l, m, a, b, c, d, e⟩ W H lt T Z us) && inB un us.length) && decide (0 ≤ (unN us un).a)) && surB l m lt lr ld W H us (unN us un)), .bool (((brdOk ⟨l, m, a, b, c, d, e⟩ W H lt lr ld && staOk ⟨l, m, a, b, c, d, e⟩ W H lt T Z us) && inB un us.length) && decide (0 ≤ (unN us un).a))]) ∧ Kp w w' := by
  have KA : Kp w ((w.alloc (.cells #[.slice At nt ct, .slice Ak nk ck, .int .i64 a, .int .i64 b, .int .i64 c, .int .i64 d, .int .i64 e, .int .i64 W, .int .i64 H, x, r, y] 44)).alloc (.cells #[.int .i64 T, .int .i64 Z, u] 48)) := ((Kp.refl w).alloc _).alloc _
  have s0 : cb12 ((w.alloc (.cells #[.slice At nt ct, .slice Ak nk ck, .int .i64 a, .int .i64 b, .int .i64 c, .int .i64 d, .int .i64 e, .int .i64 W, .int .i64 H, x, r, y] 44)).alloc (.cells #[.int .i64 T, .int .i64 Z, u] 48)) (w.heap.size) (.slice At nt ct) (.slice Ak nk ck) (.int .i64 a) (.int .i64 b) (.int .i64 c) (.int .i64 d) (.int .i64 e) (.int .i64 W) (.int .i64 H) (x) (r) (y) (cb3 ((w.alloc (.cells #[.slice At nt ct, .slice Ak nk ck, .int .i64 a, .int .i64 b, .int .i64 c, .int .i64 d, .int .i64 e, .int .i64 W, .int .i64 H, x, r, y] 44)).alloc (.cells #[.int .i64 T, .int .i64 Z, u] 48)) (w.heap.size + 1) (.int .i64 T) (.int .i64 Z) (u) (Kp w ((w.alloc (.cells #[.slice At nt ct, .slice Ak nk ck, .int .i64 a, .int .i64 b, .int .i64 c, .int .i64 d, .int .i64 e, .int .i64 W, .int .i64 H, x, r, y] 44)).alloc (.cells #[.int .i64 T, .int .i64 Z, u] 48)))) := ⟨by simp [go_sem], by simp [go_sem], by simp [go_sem], by simp [go_sem], by simp [go_sem], by simp [go_sem], by simp [go_sem], by simp [go_sem], by simp [go_sem], by simp [go_sem], by simp [go_sem], by simp [go_sem], by simp [go_sem], by simp [go_sem], by simp [go_sem], KA⟩
  have HB := Lib.hid hB
  have HS := Lib.hid hS
  clear hB
  have CU := Lib.hid (fun (w : World) hB hS => sHas_any At Ak nt nk ct ck l m a b c d e W H x r y lt lr ld T Z u us un w hB hS)
  cases hg0 : (brdOk ⟨l, m, a, b, c, d, e⟩ W H lt lr ld && staOk ⟨l, m, a, b, c, d, e⟩ W H lt T Z us) && inB un us.length
  · rw [hg0] at CU
    clear hg0 hS
    repeat (first | rw [Bool.true_and] | rw [Bool.and_true] | rw [Bool.false_and] | rw [Bool.and_false])
    go_enter Tryz.func24, Tryz.ntmps24
    go_wp2_with fail
    refine (CU.out _ (HB.out.keep KA) (HS.out.keep KA)).mono ?_
    rintro e1 w1 ⟨rfl, k1⟩
    go_wp2_with fail
    go_ret2
    exact ⟨rfl, KA.trans k1⟩
  rw [hg0] at CU
  have hok : brdOk ⟨l, m, a, b, c, d, e⟩ W H lt lr ld = true := by
    simp only [Bool.and_eq_true] at hg0
    exact hg0.1.1
  have hst : staOk ⟨l, m, a, b, c, d, e⟩ W H lt T Z us = true := by
    simp only [Bool.and_eq_true] at hg0
    exact hg0.1.2
  obtain ⟨p1, p2, p3, p4⟩ := mapOk_side (brdOk_map hok)
  have hlen := mapOk_len (brdOk_map hok)
  have hun : inB un us.length = true := by
    simp only [Bool.and_eq_true] at hg0
    exact hg0.2
  obtain ⟨k, rfl, hk, hz⟩ := unN_of hun
  clear hun hg0 s0 KA
  generalize unN us (k : Int) = zz at hz ⊢
  obtain ⟨sx, kx, ax, tx⟩ := zz
  have hu : uniOk l m W H lt ⟨sx, kx, ax, tx⟩ = true := (staOk_parts hst).2.2.1 _ (List.mem_of_getElem? hz)
  have hss := (uniOk_side hu).1
  simp only at hss
  obtain ⟨j, kd, e1, hj, _, _⟩ := uniOk_kind hu
  simp only at e1
  subst e1
  obtain ⟨A, cp, rfl, h⟩ := hS.rd
  obtain ⟨gu, ou, rfl, hc⟩ := h (by omega)
  obtain ⟨q0, q1, q2, q3⟩ := hc k _ hz
  simp only at q0 q1 q2 q3
  obtain ⟨N, hN⟩ : ∃ N, N = us.length := ⟨_, rfl⟩
  rw [← hN] at hk HS CU ⊢
  have hk' : (k : Int) < N := by omega
  have KA : Kp w ((w.alloc (.cells #[.slice At nt ct, .slice Ak nk ck, .int .i64 a, .int .i64 b, .int .i64 c, .int .i64 d, .int .i64 e, .int .i64 W, .int .i64 H, x, r, y] 44)).alloc (.cells #[.int .i64 T, .int .i64 Z, .slice (some ⟨gu, ou, none⟩) N cp] 48)) := ((Kp.refl w).alloc _).alloc _
  have s0 : cb12 ((w.alloc (.cells #[.slice At nt ct, .slice Ak nk ck, .int .i64 a, .int .i64 b, .int .i64 c, .int .i64 d, .int .i64 e, .int .i64 W, .int .i64 H, x, r, y] 44)).alloc (.cells #[.int .i64 T, .int .i64 Z, .slice (some ⟨gu, ou, none⟩) N cp] 48)) (w.heap.size) (.slice At nt ct) (.slice Ak nk ck) (.int .i64 a) (.int .i64 b) (.int .i64 c) (.int .i64 d) (.int .i64 e) (.int .i64 W) (.int .i64 H) (x) (r) (y) (cb3 ((w.alloc (.cells #[.slice At nt ct, .slice Ak nk ck, .int .i64 a, .int .i64 b, .int .i64 c, .int .i64 d, .int .i64 e, .int .i64 W, .int .i64 H, x, r, y] 44)).alloc (.cells #[.int .i64 T, .int .i64 Z, .slice (some ⟨gu, ou, none⟩) N cp] 48)) (w.heap.size + 1) (.int .i64 T) (.int .i64 Z) (.slice (some ⟨gu, ou, none⟩) N cp) (((w.alloc (.cells #[.slice At nt ct, .slice Ak nk ck, .int .i64 a, .int .i64 b, .int .i64 c, .int .i64 d, .int .i64 e, .int .i64 W, .int .i64 H, x, r, y] 44)).alloc (.cells #[.int .i64 T, .int .i64 Z, .slice (some ⟨gu, ou, none⟩) N cp] 48)).cell? ⟨gu, ou + k * 4, none⟩ = some (.int .i64 sx) ∧ ((w.alloc (.cells #[.slice At nt ct, .slice Ak nk ck, .int .i64 a, .int .i64 b, .int .i64 c, .int .i64 d, .int .i64 e, .int .i64 W, .int .i64 H, x, r, y] 44)).alloc (.cells #[.int .i64 T, .int .i64 Z, .slice (some ⟨gu, ou, none⟩) N cp] 48)).cell? ⟨gu, ou + k * 4 + 1, none⟩ = some (.int .i64 (j : Int)) ∧ ((w.alloc (.cells #[.slice At nt ct, .slice Ak nk ck, .int .i64 a, .int .i64 b, .int .i64 c, .int .i64 d, .int .i64 e, .int .i64 W, .int .i64 H, x, r, y] 44)).alloc (.cells #[.int .i64 T, .int .i64 Z, .slice (some ⟨gu, ou, none⟩) N cp] 48)).cell? ⟨gu, ou + k * 4 + 2, none⟩ = some (.int .i64 ax) ∧ ((w.alloc (.cells #[.slice At nt ct, .slice Ak nk ck, .int .i64 a, .int .i64 b, .int .i64 c, .int .i64 d, .int .i64 e, .int .i64 W, .int .i64 H, x, r, y] 44)).alloc (.cells #[.int .i64 T, .int .i64 Z, .slice (some ⟨gu, ou, none⟩) N cp] 48)).cell? ⟨gu, ou + k * 4 + 3, none⟩ = some (.int .i64 tx) ∧ Kp w ((w.alloc (.cells #[.slice At nt ct, .slice Ak nk ck, .int .i64 a, .int .i64 b, .int .i64 c, .int .i64 d, .int .i64 e, .int .i64 W, .int .i64 H, x, r, y] 44)).alloc (.cells #[.int .i64 T, .int .i64 Z, .slice (some ⟨gu, ou, none⟩) N cp] 48)))) := ⟨by simp [go_sem], by simp [go_sem], by simp [go_sem], by simp [go_sem], by simp [go_sem], by simp [go_sem], by simp [go_sem], by simp [go_sem], by simp [go_sem], by simp [go_sem], by simp [go_sem], by simp [go_sem], by simp [go_sem], by simp [go_sem], by simp [go_sem], KA.cell q0, KA.cell q1, KA.cell q2, KA.cell q3, KA⟩
  clear q0 q1 q2 q3 h hc hS
  by_cases ha : ax < 0
  · have hd : decide (0 ≤ (Uni.mk sx (j : Int) ax tx).a) = false := by simp; omega
    rw [hd, Bool.and_false]
    clear hd hok hst p1 p2 p3 p4 hlen hz hu hss hj hN
    go_enter Tryz.func24, Tryz.ntmps24
    go_wp2_with fail
    refine (CU.out _ (HB.out.keep KA) (HS.out.keep KA)).mono ?_
    rintro e1 w1 ⟨rfl, k1⟩
    have s1 := keepe19 k1 s0
    clear s0 k1
    go_wp2_with fail
    go_ret2
    exact ⟨rfl, s1.2.2.2.2.2.2.2.2.2.2.2.2.2.2.2.2.2.2.2⟩
  · have hd : decide (0 ≤ (Uni.mk sx (j : Int) ax tx).a) = true := by simp; omega
    rw [hd, Bool.and_true]
    have hax : onI W H ax = true := by
      have := uniOk_on hu (by simp; omega)
      exact this
    obtain ⟨i0, i1⟩ := onI_true hax
    have HE : Hid (∀ q : Nat, escB l m lt lr ld W H us ⟨sx, (j : Int), ax, tx⟩ ax q = (nbM W H ax q && (stpB l lt us ⟨sx, (j : Int), ax, tx⟩ (nbI W ax q) && !zonB l m lt lr ld W us (1 - sx) (nbI W ax q)))) := Lib.hid fun q => rfl
    have HSU : Hid (surB l m lt lr ld W H us ⟨sx, (j : Int), ax, tx⟩ = !exN (fun q => escB l m lt lr ld W H us ⟨sx, (j : Int), ax, tx⟩ ax q) 6) := Lib.hid rfl
    rw [HSU.out]
    obtain ⟨XB, hXB⟩ : ∃ X, X = exN (fun q => escB l m lt lr ld W H us ⟨sx, (j : Int), ax, tx⟩ ax q) 6 := ⟨_, rfl⟩
    rw [← hXB]
    have HXB := Lib.hid hXB
    clear hXB
    have CNN : Hid (∀ q : Nat, q < 6 → ∀ w, Calls Tryz.prog 54 #[mp W H x r y, .int .i64 ax, .int .i64 (q : Int)] w fun e w' => e = .returned (.int .i64 (orNo (nbM W H ax q) (nbI W ax q))) ∧ Kp w w') := Lib.hid fun q hq w => mNext_any W H x r y ax q w p1 p2 p3 p4 i0 i1 (by omega) (by omega)
    have HNX : Hid (∀ q : Nat, q < 6 → nbM W H ax q = true → ∃ (n : Nat) (z : Int), nbI W ax q = n ∧ (opnB l lt j n = decide (0 < z)) ∧ 0 ≤ z ∧
        (∀ w, BrdAt w At Ak nt nk l m x r y lt lr ld → Calls Tryz.prog 55 #[bv (.slice At nt ct) (.slice Ak nk ck) a b c d e W H x r y, .int .i64 (j : Int), .int .i64 (n : Int)] w fun e' w' => e' = .returned (.int .i64 z) ∧ Kp w w') ∧
        (∀ w, StaAt w (.slice (some ⟨gu, ou, none⟩) N cp) us → Calls Tryz.prog 56 #[sv T Z (.slice (some ⟨gu, ou, none⟩) N cp), .int .i64 (n : Int)] w fun e w' => e = .returned (.int .i64 (ownN us n)) ∧ Kp w w') ∧
        (∀ w, BrdAt w At Ak nt nk l m x r y lt lr ld → StaAt w (.slice (some ⟨gu, ou, none⟩) N cp) us → Calls Tryz.prog 31 #[bv (.slice At nt ct) (.slice Ak nk ck) a b c d e W H x r y, sv T Z (.slice (some ⟨gu, ou, none⟩) N cp), .int .i64 (n : Int), .int .i64 (1 - sx)] w fun e' w' => e' = .returned (.bool (zonB l m lt lr ld W us (1 - sx) n)) ∧ Kp w w')) := Lib.hid fun q hq hm => by
      have hnb : nbB W H ax q = true := by unfold nbB; rw [hax, dirB_mk (by omega) (by omega), hm]; rfl
      obtain ⟨_, _, n0, n1⟩ := nbB_true hnb
      obtain ⟨n, hn, hn'⟩ := onI_at (onI_mk n0 n1) hlen
      obtain ⟨_, _, z, _, _, _, _, _, h6, h7, _⟩ := brd_hex hok hj hn'
      refine ⟨n, z, hn, by unfold opnB; rw [h6], h7, fun w hB => ?_, fun w hS => sOwner_any T Z _ us (n : Int) w hS (staOk_parts hst).2.1, fun w hB hS => zIn_any At Ak nt nk ct ck l m a b c d e W H x r y lt lr ld T Z _ us (n : Int) (1 - sx) w hB hS hok hst (onI_mk (by omega) (by omega))⟩
      rw [← h6]
      exact bCost_any At Ak nt nk ct ck l m a b c d e W H x r y lt lr ld j n w hB hok hj hn'
    have nx : ∀ {q : Nat}, (∀ p, p < q → escB l m lt lr ld W H us ⟨sx, (j : Int), ax, tx⟩ ax p = false) → escB l m lt lr ld W H us ⟨sx, (j : Int), ax, tx⟩ ax q = false → ∀ p, p < q + 1 → escB l m lt lr ld W H us ⟨sx, (j : Int), ax, tx⟩ ax p = false := fun h1 h2 p hp => by
      rcases Nat.lt_succ_iff_lt_or_eq.1 hp with h3 | rfl
      · exact h1 p h3
      · exact h2
    have hsz : ((w.alloc (.cells #[.slice At nt ct, .slice Ak nk ck, .int .i64 a, .int .i64 b, .int .i64 c, .int .i64 d, .int .i64 e, .int .i64 W, .int .i64 H, x, r, y] 44)).alloc (.cells #[.int .i64 T, .int .i64 Z, .slice (some ⟨gu, ou, none⟩) N cp] 48)).heap.size = w.heap.size + 2 := by simp
    have ew : IntKind.i64.wrap (1 - sx) = 1 - sx := IntWalk.i64_in _ (by have := hss; first | omega | (simp only at this; omega))
    clear HSU hd hok hst p1 p2 p3 p4 hlen hz hu hss hj hN hax i0 i1
    go_enter Tryz.func24, Tryz.ntmps24
    go_wp2_with fail
    refine (CU.out _ (HB.out.keep KA) (HS.out.keep KA)).mono ?_
    rintro e1 w1 ⟨rfl, k1⟩
    have s1 := keepe19 k1 s0
    clear s0 k1
    go_upto_region 4 with (fail)
    have hb3 : ((w1.alloc (.cells #[.int .i64 sx, .int .i64 (j : Int), .int .i64 ax, .int .i64 tx] 87))).cell? ⟨w1.heap.size, 0, none⟩ = some (.int .i64 sx) ∧ (w1.alloc (.cells #[.int .i64 sx, .int .i64 (j : Int), .int .i64 ax, .int .i64 tx] 87)).cell? ⟨w1.heap.size, 1, none⟩ = some (.int .i64 (j : Int)) ∧ (w1.alloc (.cells #[.int .i64 sx, .int .i64 (j : Int), .int .i64 ax, .int .i64 tx] 87)).cell? ⟨w1.heap.size, 2, none⟩ = some (.int .i64 ax) ∧ (w1.alloc (.cells #[.int .i64 sx, .int .i64 (j : Int), .int .i64 ax, .int .i64 tx] 87)).cell? ⟨w1.heap.size, 3, none⟩ = some (.int .i64 tx) := ⟨by simp [go_sem], by simp [go_sem], by simp [go_sem], by simp [go_sem]⟩
    have kb3 : Kp w1 (w1.alloc (.cells #[.int .i64 sx, .int .i64 (j : Int), .int .i64 ax, .int .i64 tx] 87)) := (Kp.refl w1).alloc _
    have s2 := keepe19 kb3 s1
    generalize w1.alloc (.cells #[.int .i64 sx, .int .i64 (j : Int), .int .i64 ax, .int .i64 tx] 87) = W3 at *
    have s3 : cb12 W3 (w.heap.size) (.slice At nt ct) (.slice Ak nk ck) (.int .i64 a) (.int .i64 b) (.int .i64 c) (.int .i64 d) (.int .i64 e) (.int .i64 W) (.int .i64 H) (x) (r) (y) (cb3 W3 (w.heap.size + 1) (.int .i64 T) (.int .i64 Z) (.slice (some ⟨gu, ou, none⟩) N cp) (cb4 W3 (w1.heap.size) (.int .i64 sx) (.int .i64 (j : Int)) (.int .i64 ax) (.int .i64 tx) (Kp w W3))) := ⟨s2.1, s2.2.1, s2.2.2.1, s2.2.2.2.1, s2.2.2.2.2.1, s2.2.2.2.2.2.1, s2.2.2.2.2.2.2.1, s2.2.2.2.2.2.2.2.1, s2.2.2.2.2.2.2.2.2.1, s2.2.2.2.2.2.2.2.2.2.1, s2.2.2.2.2.2.2.2.2.2.2.1, s2.2.2.2.2.2.2.2.2.2.2.2.1, s2.2.2.2.2.2.2.2.2.2.2.2.2.1, s2.2.2.2.2.2.2.2.2.2.2.2.2.2.1, s2.2.2.2.2.2.2.2.2.2.2.2.2.2.2.1, hb3.1, hb3.2.1, hb3.2.2.1, hb3.2.2.2, s2.2.2.2.2.2.2.2.2.2.2.2.2.2.2.2.2.2.2.2⟩
    clear s1 s2 hb3 kb3
    go_wp2_with fail
    go_loopw [9] (fun sq wx => ∃ q : Nat, q ≤ 6 ∧ sq = .int .i64 q ∧ Hid (∀ p, p < q → escB l m lt lr ld W H us ⟨sx, (j : Int), ax, tx⟩ ax p = false) ∧ (cb12 wx (w.heap.size) (.slice At nt ct) (.slice Ak nk ck) (.int .i64 a) (.int .i64 b) (.int .i64 c) (.int .i64 d) (.int .i64 e) (.int .i64 W) (.int .i64 H) (x) (r) (y) (cb3 wx (w.heap.size + 1) (.int .i64 T) (.int .i64 Z) (.slice (some ⟨gu, ou, none⟩) N cp) (cb4 wx (w1.heap.size) (.int .i64 sx) (.int .i64 (j : Int)) (.int .i64 ax) (.int .i64 tx) (Kp w wx))))) (fun sq _ => 6 - (intOf sq).toNat)
    case atStart => exact ⟨0, by omega, rfl, Lib.hid fun p hp => absurd hp (by omega), s3⟩
    case round =>
      obtain ⟨q, hqn, rfl, hno, sr⟩ := hrel
      clear s3
      by_cases hlt : q < 6
      · have hlt' : (q : Int) < 6 := by omega
        have CN := Lib.hid (CNN.out q hlt)
        have hesc := HE.out q
        cases hm : nbM W H ax (q : Int)
        · rw [hm, orNo_false] at CN
          rw [hm, Bool.false_and] at hesc
          have HN2 := Lib.hid (nx hno.out hesc)
          clear hno hesc hm
          go_wp2_with fail
          refine (CN.out _).mono ?_
          rintro e3 w3 ⟨rfl, k3⟩
          have s3a := keepe19 k3 sr
          clear k3 sr
          go_upto_region 8 with (fail)
          have s3 := drewe19 s3a
          clear s3a
          refine wp_region_held_drew (S := (fun w' => cb12 w' (w.heap.size) (.slice At nt ct) (.slice Ak nk ck) (.int .i64 a) (.int .i64 b) (.int .i64 c) (.int .i64 d) (.int .i64 e) (.int .i64 W) (.int .i64 H) (x) (r) (y) (cb3 w' (w.heap.size + 1) (.int .i64 T) (.int .i64 Z) (.slice (some ⟨gu, ou, none⟩) N cp) (cb4 w' (w1.heap.size) (.int .i64 sx) (.int .i64 (j : Int)) (.int .i64 ax) (.int .i64 tx) (Kp w w'))))) (by kernel_rfl) ?_ (fun hHeld => ?_)
          · exact s3
          refine tk 0 ⟨some 40, _, _, _, _, _⟩ ?_ rfl (by kernel_rfl) (fun _ _ _ h => h) (by rfl) ?_ (by assumption) ?_
          rotate_left
          · intro w hSw; (try dsimp only at hSw); go_simp; (all_goals with_reducible rfl)
          simp only [Act.put, sA, sB, sC]
          refine tk 1 ⟨some 41, _, _, _, _, _⟩ ?_ rfl (by kernel_rfl) (fun _ _ _ h => h) (by rfl) ?_ (by assumption) ?_
          rotate_left
          · intro w hSw; (try dsimp only at hSw); go_simp; (all_goals with_reducible rfl)
          simp only [Act.put, sA, sB, sC]
          refine tk 2 ⟨some 42, _, _, _, _, _⟩ ?_ rfl (by kernel_rfl) (fun _ _ _ h => h) (by rfl) ?_ (by assumption) ?_
          rotate_left
          · intro w hSw; (try dsimp only at hSw); go_simp; (all_goals with_reducible rfl)
          simp only [Act.put, sA, sB, sC]
          refine tn 3 ⟨some 43, _, _, _, _, _⟩ rfl (by kernel_rfl) (fun _ _ _ h => h) (by rfl) (by assumption) ?_
          simp only [Act.put, sA, sB, sC]
          refine tn 4 ⟨some 44, _, _, _, _, _⟩ rfl (by kernel_rfl) (fun _ _ _ h => h) (by rfl) (by assumption) ?_
          simp only [Act.put, sA, sB, sC]
          refine tn 5 ⟨some 45, _, _, _, _, _⟩ rfl (by kernel_rfl) (fun _ _ _ h => h) (by rfl) (by assumption) ?_
          simp only [Act.put, sA, sB, sC]
          refine tn 6 ⟨some 46, _, _, _, _, _⟩ rfl (by kernel_rfl) (fun _ _ _ h => h) (by rfl) (by assumption) ?_
          simp only [Act.put, sA, sB, sC]
          refine wpAnyH_ready (rs := [7]) (by kernel_rfl) (by simp) ?_
          refine AllReadyH.cons (o := ⟨some 47, _, _, _, _, _⟩) rfl (fun K hK => ?_) AllReadyH.nil
          go_simp
          refine hK.out _ _ ?_ (fun hHeld => ?_)
          · (try dsimp only); (first | assumption)
          clear hK K
          try simp only [Act.put, sA, sB, sC]
          refine tn 8 ⟨some 48, _, _, _, _, _⟩ rfl (by kernel_rfl) (fun _ _ _ h => h) (by rfl) (by assumption) ?_
          simp only [Act.put, sA, sB, sC]
          refine tk 9 ⟨some 49, _, _, _, _, _⟩ ?_ rfl (by kernel_rfl) (fun _ _ _ h => h) (by rfl) ?_ (by assumption) ?_
          rotate_left
          · intro w hSw; (try dsimp only at hSw); go_simp; (all_goals with_reducible rfl)
          simp only [Act.put, sA, sB, sC]
          refine tk 10 ⟨some 50, _, _, _, _, _⟩ ?_ rfl (by kernel_rfl) (fun _ _ _ h => h) (by rfl) ?_ (by assumption) ?_
          rotate_left
          · intro w hSw; (try dsimp only at hSw); go_simp; (all_goals with_reducible rfl)
          simp only [Act.put, sA, sB, sC]
          refine tn 11 ⟨some 51, _, _, _, _, _⟩ rfl (by kernel_rfl) (fun _ _ _ h => h) (by rfl) (by assumption) ?_
          simp only [Act.put, sA, sB, sC]
          refine tn 12 ⟨some 52, _, _, _, _, _⟩ rfl (by kernel_rfl) (fun _ _ _ h => h) (by rfl) (by assumption) ?_
          simp only [Act.put, sA, sB, sC]
          refine tn 14 ⟨some 54, _, _, _, _, _⟩ rfl (by kernel_rfl) (fun _ _ _ h => h) (by rfl) (by assumption) ?_
          simp only [Act.put, sA, sB, sC]
          refine tn 15 ⟨some 55, _, _, _, _, _⟩ rfl (by kernel_rfl) (fun _ _ _ h => h) (by rfl) (by assumption) ?_
          simp only [Act.put, sA, sB, sC]
          refine tn 16 ⟨some 56, _, _, _, _, _⟩ rfl (by kernel_rfl) (fun _ _ _ h => h) (by rfl) (by assumption) ?_
          simp only [Act.put, sA, sB, sC]
          refine wpAnyH_ready (rs := [13]) (by kernel_rfl) (by simp) ?_
          refine AllReadyH.cons (o := ⟨some 53, _, _, _, _, _⟩) rfl (fun K hK => ?_) AllReadyH.nil
          go_simp
          refine hK.out _ _ ?_ (fun hHeld => ?_)
          · (try dsimp only); (first | assumption)
          clear hK K
          try simp only [Act.put, sA, sB, sC]
          refine tn 17 ⟨some 57, _, _, _, _, _⟩ rfl (by kernel_rfl) (fun _ _ _ h => h) (by rfl) (by assumption) ?_
          simp only [Act.put, sA, sB, sC]
          refine tk 18 ⟨some 58, _, _, _, _, _⟩ ?_ rfl (by kernel_rfl) (fun _ _ _ h => h) (by rfl) ?_ (by assumption) ?_
          rotate_left
          · intro w hSw; (try dsimp only at hSw); go_simp; (all_goals with_reducible rfl)
          simp only [Act.put, sA, sB, sC]
          refine tk 19 ⟨some 59, _, _, _, _, _⟩ ?_ rfl (by kernel_rfl) (fun _ _ _ h => h) (by rfl) ?_ (by assumption) ?_
          rotate_left
          · intro w hSw; (try dsimp only at hSw); go_simp; (all_goals with_reducible rfl)
          simp only [Act.put, sA, sB, sC]
          refine tn 20 ⟨some 60, _, _, _, _, _⟩ rfl (by kernel_rfl) (fun _ _ _ h => h) (by rfl) (by assumption) ?_
          simp only [Act.put, sA, sB, sC]
          refine tn 21 ⟨some 61, _, _, _, _, _⟩ rfl (by kernel_rfl) (fun _ _ _ h => h) (by rfl) (by assumption) ?_
          simp only [Act.put, sA, sB, sC]
          refine tn 22 ⟨some 62, _, _, _, _, _⟩ rfl (by kernel_rfl) (fun _ _ _ h => h) (by rfl) (by assumption) ?_
          simp only [Act.put, sA, sB, sC]
          refine tn 23 ⟨some 63, _, _, _, _, _⟩ rfl (by kernel_rfl) (fun _ _ _ h => h) (by rfl) (by assumption) ?_
          simp only [Act.put, sA, sB, sC]
          refine tn 24 ⟨some 64, _, _, _, _, _⟩ rfl (by kernel_rfl) (fun _ _ _ h => h) (by rfl) (by assumption) ?_
          simp only [Act.put, sA, sB, sC]
          refine tn 25 ⟨some 65, _, _, _, _, _⟩ rfl (by kernel_rfl) (fun _ _ _ h => h) (by rfl) (by assumption) ?_
          simp only [Act.put, sA, sB, sC]
          refine wpAnyH_ready (rs := [26]) (by kernel_rfl) (by simp) ?_
          refine AllReadyH.cons (o := ⟨some 66, _, _, _, _, _⟩) rfl (fun K hK => ?_) AllReadyH.nil
          go_simp
          refine hK.out _ _ ?_ (fun hHeld => ?_)
          · (try dsimp only); (first | assumption)
          clear hK K
          try simp only [Act.put, sA, sB, sC]
          refine tn 27 ⟨some 67, _, _, _, _, _⟩ rfl (by kernel_rfl) (fun _ _ _ h => h) (by rfl) (by assumption) ?_
          simp only [Act.put, sA, sB, sC]
          refine tk 28 ⟨some 68, _, _, _, _, _⟩ ?_ rfl (by kernel_rfl) (fun _ _ _ h => h) (by rfl) ?_ (by assumption) ?_
          rotate_left
          · intro w hSw; (try dsimp only at hSw); go_simp; (all_goals with_reducible rfl)
          simp only [Act.put, sA, sB, sC]
          refine wpAnyH_done (by kernel_rfl) ?_ _
          go_wp2_with fail
          go_roundw
          case rel => exact ⟨q + 1, by omega, by go_num, HN2, hHeld⟩
          case measure => simp [intOf]; omega
        · rw [hm, orNo_true] at CN
          obtain ⟨n, z, hn, hop, hz0, c1, c2, c3⟩ := HNX.out q hlt hm
          rw [hn] at CN
          have CC := Lib.hid c1
          have CO := Lib.hid c2
          have CQ := Lib.hid c3
          have hst2 : stpB l lt us ⟨sx, (j : Int), ax, tx⟩ (n : Int) = (decide (0 < z) && !(ownN us n == 1 - sx)) := by
            unfold stpB
            simp only [Int.toNat_natCast]
            rw [hop]
            congr 1
            rw [Bool.eq_iff_iff]
            simp
          rw [hm, hn, hst2, Bool.true_and] at hesc
          have hn0 : 0 ≤ (n : Int) := by omega
          clear hm hn hop c1 c2 c3 hst2
          generalize ownN us (n : Int) = O at CO hesc
          generalize zonB l m lt lr ld W us (1 - sx) (n : Int) = Q at CQ hesc
          by_cases hzc : z = 0
          · subst hzc
            have HN2 := Lib.hid (nx hno.out (by rw [hesc]; rfl))
            clear hno hesc CQ CO
            go_wp2_with fail
            refine (CN.out _).mono ?_
            rintro e3 w3 ⟨rfl, k3⟩
            have s3a := keepe19 k3 sr
            clear k3 sr
            go_upto_region 8 with (fail)
            have s3 := drewe19 s3a
            clear s3a
            refine wp_region_held_drew (S := (fun w' => cb12 w' (w.heap.size) (.slice At nt ct) (.slice Ak nk ck) (.int .i64 a) (.int .i64 b) (.int .i64 c) (.int .i64 d) (.int .i64 e) (.int .i64 W) (.int .i64 H) (x) (r) (y) (cb3 w' (w.heap.size + 1) (.int .i64 T) (.int .i64 Z) (.slice (some ⟨gu, ou, none⟩) N cp) (cb4 w' (w1.heap.size) (.int .i64 sx) (.int .i64 (j : Int)) (.int .i64 ax) (.int .i64 tx) (Kp w w'))))) (by kernel_rfl) ?_ (fun hHeld => ?_)
            · exact s3
            refine tk 0 ⟨some 40, _, _, _, _, _⟩ ?_ rfl (by kernel_rfl) (fun _ _ _ h => h) (by rfl) ?_ (by assumption) ?_
            rotate_left
            · intro w hSw; (try dsimp only at hSw); go_simp; (all_goals with_reducible rfl)
            simp only [Act.put, sA, sB, sC]
            refine tk 1 ⟨some 41, _, _, _, _, _⟩ ?_ rfl (by kernel_rfl) (fun _ _ _ h => h) (by rfl) ?_ (by assumption) ?_
            rotate_left
            · intro w hSw; (try dsimp only at hSw); go_simp; (all_goals with_reducible rfl)
            simp only [Act.put, sA, sB, sC]
            refine tk 2 ⟨some 42, _, _, _, _, _⟩ ?_ rfl (by kernel_rfl) (fun _ _ _ h => h) (by rfl) ?_ (by assumption) ?_
            rotate_left
            · intro w hSw; (try dsimp only at hSw); go_simp; (all_goals with_reducible rfl)
            simp only [Act.put, sA, sB, sC]
            refine tk 3 ⟨some 43, _, _, _, _, _⟩ ?_ rfl (by kernel_rfl) (fun _ _ _ h => h) (by rfl) ?_ (by assumption) ?_
            rotate_left
            · intro w hSw; (try dsimp only at hSw); go_simp; (all_goals with_reducible rfl)
            simp only [Act.put, sA, sB, sC]
            refine tk 4 ⟨some 44, _, _, _, _, _⟩ ?_ rfl (by kernel_rfl) (fun _ _ _ h => h) (by rfl) ?_ (by assumption) ?_
            rotate_left
            · intro w hSw; (try dsimp only at hSw); go_simp; (all_goals with_reducible rfl)
            simp only [Act.put, sA, sB, sC]
            refine tk 5 ⟨some 45, _, _, _, _, _⟩ ?_ rfl (by kernel_rfl) (fun _ _ _ h => h) (by rfl) ?_ (by assumption) ?_
            rotate_left
            · intro w hSw; (try dsimp only at hSw); go_simp; (all_goals with_reducible rfl)
            simp only [Act.put, sA, sB, sC]
            refine tk 6 ⟨some 46, _, _, _, _, _⟩ ?_ rfl (by kernel_rfl) (fun _ _ _ h => h) (by rfl) ?_ (by assumption) ?_
            rotate_left
            · intro w hSw; (try dsimp only at hSw); go_simp; (all_goals with_reducible rfl)
            simp only [Act.put, sA, sB, sC]
            refine wpAnyH_ready (rs := [7]) (by kernel_rfl) (by simp) ?_
            refine AllReadyH.cons (o := ⟨some 47, _, _, _, _, _⟩) rfl (fun K hK => ?_) AllReadyH.nil
            go_simp
            refine (CC.out _ (HB.out.keep hHeld.2.2.2.2.2.2.2.2.2.2.2.2.2.2.2.2.2.2.2)).mono ?_; rintro e4 w4 ⟨rfl, k4⟩; have s4 := keepe19 k4 hHeld
            go_wp2_with fail
            refine hK.out _ _ ?_ (fun hHeld => ?_)
            · (try dsimp only); (first | assumption)
            clear hK K
            try simp only [Act.put, sA, sB, sC]
            refine tk 8 ⟨some 48, _, _, _, _, _⟩ ?_ rfl (by kernel_rfl) (fun _ _ _ h => h) (by rfl) ?_ (by assumption) ?_
            rotate_left
            · intro w hSw; (try dsimp only at hSw); go_simp; (all_goals with_reducible rfl)
            simp only [Act.put, sA, sB, sC]
            refine tk 9 ⟨some 49, _, _, _, _, _⟩ ?_ rfl (by kernel_rfl) (fun _ _ _ h => h) (by rfl) ?_ (by assumption) ?_
            rotate_left
            · intro w hSw; (try dsimp only at hSw); go_simp; (all_goals with_reducible rfl)
            simp only [Act.put, sA, sB, sC]
            refine tk 10 ⟨some 50, _, _, _, _, _⟩ ?_ rfl (by kernel_rfl) (fun _ _ _ h => h) (by rfl) ?_ (by assumption) ?_
            rotate_left
            · intro w hSw; (try dsimp only at hSw); go_simp; (all_goals with_reducible rfl)
            simp only [Act.put, sA, sB, sC]
            refine tn 11 ⟨some 51, _, _, _, _, _⟩ rfl (by kernel_rfl) (fun _ _ _ h => h) (by rfl) (by assumption) ?_
            simp only [Act.put, sA, sB, sC]
            refine tn 12 ⟨some 52, _, _, _, _, _⟩ rfl (by kernel_rfl) (fun _ _ _ h => h) (by rfl) (by assumption) ?_
            simp only [Act.put, sA, sB, sC]
            refine tn 14 ⟨some 54, _, _, _, _, _⟩ rfl (by kernel_rfl) (fun _ _ _ h => h) (by rfl) (by assumption) ?_
            simp only [Act.put, sA, sB, sC]
            refine tn 15 ⟨some 55, _, _, _, _, _⟩ rfl (by kernel_rfl) (fun _ _ _ h => h) (by rfl) (by assumption) ?_
            simp only [Act.put, sA, sB, sC]
            refine tn 16 ⟨some 56, _, _, _, _, _⟩ rfl (by kernel_rfl) (fun _ _ _ h => h) (by rfl) (by assumption) ?_
            simp only [Act.put, sA, sB, sC]
            refine wpAnyH_ready (rs := [13]) (by kernel_rfl) (by simp) ?_
            refine AllReadyH.cons (o := ⟨some 53, _, _, _, _, _⟩) rfl (fun K hK => ?_) AllReadyH.nil
            go_simp
            refine hK.out _ _ ?_ (fun hHeld => ?_)
            · (try dsimp only); (first | assumption)
            clear hK K
            try simp only [Act.put, sA, sB, sC]
            refine tn 17 ⟨some 57, _, _, _, _, _⟩ rfl (by kernel_rfl) (fun _ _ _ h => h) (by rfl) (by assumption) ?_
            simp only [Act.put, sA, sB, sC]
            refine tk 18 ⟨some 58, _, _, _, _, _⟩ ?_ rfl (by kernel_rfl) (fun _ _ _ h => h) (by rfl) ?_ (by assumption) ?_
            rotate_left
            · intro w hSw; (try dsimp only at hSw); go_simp; (all_goals with_reducible rfl)
            simp only [Act.put, sA, sB, sC]
            refine tk 19 ⟨some 59, _, _, _, _, _⟩ ?_ rfl (by kernel_rfl) (fun _ _ _ h => h) (by rfl) ?_ (by assumption) ?_
            rotate_left
            · intro w hSw; (try dsimp only at hSw); go_simp; (all_goals with_reducible rfl)
            simp only [Act.put, sA, sB, sC]
            refine tn 20 ⟨some 60, _, _, _, _, _⟩ rfl (by kernel_rfl) (fun _ _ _ h => h) (by rfl) (by assumption) ?_
            simp only [Act.put, sA, sB, sC]
            refine tn 21 ⟨some 61, _, _, _, _, _⟩ rfl (by kernel_rfl) (fun _ _ _ h => h) (by rfl) (by assumption) ?_
            simp only [Act.put, sA, sB, sC]
            refine tn 22 ⟨some 62, _, _, _, _, _⟩ rfl (by kernel_rfl) (fun _ _ _ h => h) (by rfl) (by assumption) ?_
            simp only [Act.put, sA, sB, sC]
            refine tn 23 ⟨some 63, _, _, _, _, _⟩ rfl (by kernel_rfl) (fun _ _ _ h => h) (by rfl) (by assumption) ?_
            simp only [Act.put, sA, sB, sC]
            refine tn 24 ⟨some 64, _, _, _, _, _⟩ rfl (by kernel_rfl) (fun _ _ _ h => h) (by rfl) (by assumption) ?_
            simp only [Act.put, sA, sB, sC]
            refine tn 25 ⟨some 65, _, _, _, _, _⟩ rfl (by kernel_rfl) (fun _ _ _ h => h) (by rfl) (by assumption) ?_
            simp only [Act.put, sA, sB, sC]
            refine wpAnyH_ready (rs := [26]) (by kernel_rfl) (by simp) ?_
            refine AllReadyH.cons (o := ⟨some 66, _, _, _, _, _⟩) rfl (fun K hK => ?_) AllReadyH.nil
            go_simp
            refine hK.out _ _ ?_ (fun hHeld => ?_)
            · (try dsimp only); (first | assumption)
            clear hK K
            try simp only [Act.put, sA, sB, sC]
            refine tn 27 ⟨some 67, _, _, _, _, _⟩ rfl (by kernel_rfl) (fun _ _ _ h => h) (by rfl) (by assumption) ?_
            simp only [Act.put, sA, sB, sC]
            refine tk 28 ⟨some 68, _, _, _, _, _⟩ ?_ rfl (by kernel_rfl) (fun _ _ _ h => h) (by rfl) ?_ (by assumption) ?_
            rotate_left
            · intro w hSw; (try dsimp only at hSw); go_simp; (all_goals with_reducible rfl)
            simp only [Act.put, sA, sB, sC]
            refine wpAnyH_done (by kernel_rfl) ?_ _
            go_wp2_with fail
            go_roundw
            case rel => exact ⟨q + 1, by omega, by go_num, HN2, hHeld⟩
            case measure => simp [intOf]; omega
          · have hz1 : 0 < z := by omega
            rw [decide_eq_true hz1, Bool.true_and] at hesc
            clear hzc hz0
            cases hO : (O == 1 - sx)
            · have hO2 : (O != 1 - sx) = true := by simp [bne, hO]
              rw [hO] at hesc
              cases Q
              · have HX : Hid (exN (fun q => escB l m lt lr ld W H us ⟨sx, (j : Int), ax, tx⟩ ax q) 6 = true) := Lib.hid (exN_yes hlt (by rw [hesc]; rfl))
                clear hesc hno hO
                go_wp2_with fail
                refine (CN.out _).mono ?_
                rintro e3 w3 ⟨rfl, k3⟩
                have s3a := keepe19 k3 sr
                clear k3 sr
                go_upto_region 8 with (fail)
                have s3 := drewe19 s3a
                clear s3a
                refine wp_region_held_drew (S := (fun w' => cb12 w' (w.heap.size) (.slice At nt ct) (.slice Ak nk ck) (.int .i64 a) (.int .i64 b) (.int .i64 c) (.int .i64 d) (.int .i64 e) (.int .i64 W) (.int .i64 H) (x) (r) (y) (cb3 w' (w.heap.size + 1) (.int .i64 T) (.int .i64 Z) (.slice (some ⟨gu, ou, none⟩) N cp) (cb4 w' (w1.heap.size) (.int .i64 sx) (.int .i64 (j : Int)) (.int .i64 ax) (.int .i64 tx) (Kp w w'))))) (by kernel_rfl) ?_ (fun hHeld => ?_)
                · exact s3
                refine tk 0 ⟨some 40, _, _, _, _, _⟩ ?_ rfl (by kernel_rfl) (fun _ _ _ h => h) (by rfl) ?_ (by assumption) ?_
                rotate_left
                · intro w hSw; (try dsimp only at hSw); go_simp; (all_goals with_reducible rfl)
                simp only [Act.put, sA, sB, sC]
                refine tk 1 ⟨some 41, _, _, _, _, _⟩ ?_ rfl (by kernel_rfl) (fun _ _ _ h => h) (by rfl) ?_ (by assumption) ?_
                rotate_left
                · intro w hSw; (try dsimp only at hSw); go_simp; (all_goals with_reducible rfl)
                simp only [Act.put, sA, sB, sC]
                refine tk 2 ⟨some 42, _, _, _, _, _⟩ ?_ rfl (by kernel_rfl) (fun _ _ _ h => h) (by rfl) ?_ (by assumption) ?_
                rotate_left
                · intro w hSw; (try dsimp only at hSw); go_simp; (all_goals with_reducible rfl)
                simp only [Act.put, sA, sB, sC]
                refine tk 3 ⟨some 43, _, _, _, _, _⟩ ?_ rfl (by kernel_rfl) (fun _ _ _ h => h) (by rfl) ?_ (by assumption) ?_
                rotate_left
                · intro w hSw; (try dsimp only at hSw); go_simp; (all_goals with_reducible rfl)
                simp only [Act.put, sA, sB, sC]
                refine tk 4 ⟨some 44, _, _, _, _, _⟩ ?_ rfl (by kernel_rfl) (fun _ _ _ h => h) (by rfl) ?_ (by assumption) ?_
                rotate_left
                · intro w hSw; (try dsimp only at hSw); go_simp; (all_goals with_reducible rfl)
                simp only [Act.put, sA, sB, sC]
                refine tk 5 ⟨some 45, _, _, _, _, _⟩ ?_ rfl (by kernel_rfl) (fun _ _ _ h => h) (by rfl) ?_ (by assumption) ?_
                rotate_left
                · intro w hSw; (try dsimp only at hSw); go_simp; (all_goals with_reducible rfl)
                simp only [Act.put, sA, sB, sC]
                refine tk 6 ⟨some 46, _, _, _, _, _⟩ ?_ rfl (by kernel_rfl) (fun _ _ _ h => h) (by rfl) ?_ (by assumption) ?_
                rotate_left
                · intro w hSw; (try dsimp only at hSw); go_simp; (all_goals with_reducible rfl)
                simp only [Act.put, sA, sB, sC]
                refine wpAnyH_ready (rs := [7]) (by kernel_rfl) (by simp) ?_
                refine AllReadyH.cons (o := ⟨some 47, _, _, _, _, _⟩) rfl (fun K hK => ?_) AllReadyH.nil
                go_simp
                refine (CC.out _ (HB.out.keep hHeld.2.2.2.2.2.2.2.2.2.2.2.2.2.2.2.2.2.2.2)).mono ?_; rintro e4 w4 ⟨rfl, k4⟩; have s4 := keepe19 k4 hHeld
                go_wp2_with fail
                refine hK.out _ _ ?_ (fun hHeld => ?_)
                · (try dsimp only); (first | assumption)
                clear hK K
                try simp only [Act.put, sA, sB, sC]
                refine tk 8 ⟨some 48, _, _, _, _, _⟩ ?_ rfl (by kernel_rfl) (fun _ _ _ h => h) (by rfl) ?_ (by assumption) ?_
                rotate_left
                · intro w hSw; (try dsimp only at hSw); go_simp; (all_goals with_reducible rfl)
                simp only [Act.put, sA, sB, sC]
                refine tk 9 ⟨some 49, _, _, _, _, _⟩ ?_ rfl (by kernel_rfl) (fun _ _ _ h => h) (by rfl) ?_ (by assumption) ?_
                rotate_left
                · intro w hSw; (try dsimp only at hSw); go_simp; (all_goals with_reducible rfl)
                simp only [Act.put, sA, sB, sC]
                refine tk 10 ⟨some 50, _, _, _, _, _⟩ ?_ rfl (by kernel_rfl) (fun _ _ _ h => h) (by rfl) ?_ (by assumption) ?_
                rotate_left
                · intro w hSw; (try dsimp only at hSw); go_simp; (all_goals with_reducible rfl)
                simp only [Act.put, sA, sB, sC]
                refine tk 11 ⟨some 51, _, _, _, _, _⟩ ?_ rfl (by kernel_rfl) (fun _ _ _ h => h) (by rfl) ?_ (by assumption) ?_
                rotate_left
                · intro w hSw; (try dsimp only at hSw); go_simp; (all_goals with_reducible rfl)
                simp only [Act.put, sA, sB, sC]
                refine tk 12 ⟨some 52, _, _, _, _, _⟩ ?_ rfl (by kernel_rfl) (fun _ _ _ h => h) (by rfl) ?_ (by assumption) ?_
                rotate_left
                · intro w hSw; (try dsimp only at hSw); go_simp; (all_goals with_reducible rfl)
                simp only [Act.put, sA, sB, sC]
                refine tk 14 ⟨some 54, _, _, _, _, _⟩ ?_ rfl (by kernel_rfl) (fun _ _ _ h => h) (by rfl) ?_ (by assumption) ?_
                rotate_left
                · intro w hSw; (try dsimp only at hSw); go_simp; (all_goals with_reducible rfl)
                simp only [Act.put, sA, sB, sC]
                refine tk 15 ⟨some 55, _, _, _, _, _⟩ ?_ rfl (by kernel_rfl) (fun _ _ _ h => h) (by rfl) ?_ (by assumption) ?_
                rotate_left
                · intro w hSw; (try dsimp only at hSw); go_simp; (all_goals with_reducible rfl)
                simp only [Act.put, sA, sB, sC]
                refine tk 16 ⟨some 56, _, _, _, _, _⟩ ?_ rfl (by kernel_rfl) (fun _ _ _ h => h) (by rfl) ?_ (by assumption) ?_
                rotate_left
                · intro w hSw; (try dsimp only at hSw); go_simp; (all_goals with_reducible rfl)
                simp only [Act.put, sA, sB, sC]
                refine wpAnyH_ready (rs := [13]) (by kernel_rfl) (by simp) ?_
                refine AllReadyH.cons (o := ⟨some 53, _, _, _, _, _⟩) rfl (fun K hK => ?_) AllReadyH.nil
                go_simp
                refine (CO.out _ (HS.out.keep hHeld.2.2.2.2.2.2.2.2.2.2.2.2.2.2.2.2.2.2.2)).mono ?_; rintro e5 w5 ⟨rfl, k5⟩; have s5 := keepe19 k5 hHeld
                go_wp2_with fail
                refine hK.out _ _ ?_ (fun hHeld => ?_)
                · (try dsimp only); (first | assumption)
                clear hK K
                try simp only [Act.put, sA, sB, sC]
                refine tk 17 ⟨some 57, _, _, _, _, _⟩ ?_ rfl (by kernel_rfl) (fun _ _ _ h => h) (by rfl) ?_ (by assumption) ?_
                rotate_left
                · intro w hSw; (try dsimp only at hSw); go_simp; (all_goals with_reducible rfl)
                simp only [Act.put, sA, sB, sC]
                refine tk 18 ⟨some 58, _, _, _, _, _⟩ ?_ rfl (by kernel_rfl) (fun _ _ _ h => h) (by rfl) ?_ (by assumption) ?_
                rotate_left
                · intro w hSw; (try dsimp only at hSw); go_simp; (all_goals with_reducible rfl)
                simp only [Act.put, sA, sB, sC]
                refine tk 19 ⟨some 59, _, _, _, _, _⟩ ?_ rfl (by kernel_rfl) (fun _ _ _ h => h) (by rfl) ?_ (by assumption) ?_
                rotate_left
                · intro w hSw; (try dsimp only at hSw); go_simp; (all_goals with_reducible rfl)
                simp only [Act.put, sA, sB, sC]
                refine tk 20 ⟨some 60, _, _, _, _, _⟩ ?_ rfl (by kernel_rfl) (fun _ _ _ h => h) (by rfl) ?_ (by assumption) ?_
                rotate_left
                · intro w hSw; (try dsimp only at hSw); go_simp; (all_goals with_reducible rfl)
                simp only [Act.put, sA, sB, sC]
                refine tk 21 ⟨some 61, _, _, _, _, _⟩ ?_ rfl (by kernel_rfl) (fun _ _ _ h => h) (by rfl) ?_ (by assumption) ?_
                rotate_left
                · intro w hSw; (try dsimp only at hSw); go_simp; (all_goals with_reducible rfl)
                simp only [Act.put, sA, sB, sC]
                refine tk 22 ⟨some 62, _, _, _, _, _⟩ ?_ rfl (by kernel_rfl) (fun _ _ _ h => h) (by rfl) ?_ (by assumption) ?_
                rotate_left
                · intro w hSw; (try dsimp only at hSw); go_simp; (all_goals with_reducible rfl)
                simp only [Act.put, sA, sB, sC]
                refine tk 23 ⟨some 63, _, _, _, _, _⟩ ?_ rfl (by kernel_rfl) (fun _ _ _ h => h) (by rfl) ?_ (by assumption) ?_
                rotate_left
                · intro w hSw; (try dsimp only at hSw); go_simp; (all_goals with_reducible rfl)
                simp only [Act.put, sA, sB, sC]
                refine tk 24 ⟨some 64, _, _, _, _, _⟩ ?_ rfl (by kernel_rfl) (fun _ _ _ h => h) (by rfl) ?_ (by assumption) ?_
                rotate_left
                · intro w hSw; (try dsimp only at hSw); go_simp; (all_goals with_reducible rfl)
                simp only [Act.put, sA, sB, sC]
                refine tk 25 ⟨some 65, _, _, _, _, _⟩ ?_ rfl (by kernel_rfl) (fun _ _ _ h => h) (by rfl) ?_ (by assumption) ?_
                rotate_left
                · intro w hSw; (try dsimp only at hSw); go_simp; (all_goals with_reducible rfl)
                simp only [Act.put, sA, sB, sC]
                refine wpAnyH_ready (rs := [26]) (by kernel_rfl) (by simp) ?_
                refine AllReadyH.cons (o := ⟨some 66, _, _, _, _, _⟩) rfl (fun K hK => ?_) AllReadyH.nil
                go_simp
                refine (CQ.out _ (HB.out.keep hHeld.2.2.2.2.2.2.2.2.2.2.2.2.2.2.2.2.2.2.2) (HS.out.keep hHeld.2.2.2.2.2.2.2.2.2.2.2.2.2.2.2.2.2.2.2)).mono ?_; rintro e6 w6 ⟨rfl, k6⟩; have s6 := keepe19 k6 hHeld
                go_wp2_with fail
                refine hK.out _ _ ?_ (fun hHeld => ?_)
                · (try dsimp only); (first | assumption)
                clear hK K
                try simp only [Act.put, sA, sB, sC]
                refine tk 27 ⟨some 67, _, _, _, _, _⟩ ?_ rfl (by kernel_rfl) (fun _ _ _ h => h) (by rfl) ?_ (by assumption) ?_
                rotate_left
                · intro w hSw; (try dsimp only at hSw); go_simp; (all_goals with_reducible rfl)
                simp only [Act.put, sA, sB, sC]
                refine tk 28 ⟨some 68, _, _, _, _, _⟩ ?_ rfl (by kernel_rfl) (fun _ _ _ h => h) (by rfl) ?_ (by assumption) ?_
                rotate_left
                · intro w hSw; (try dsimp only at hSw); go_simp; (all_goals with_reducible rfl)
                simp only [Act.put, sA, sB, sC]
                refine wpAnyH_done (by kernel_rfl) ?_ _
                go_wp2_with fail
                go_ret2
                refine ⟨?_, hHeld.2.2.2.2.2.2.2.2.2.2.2.2.2.2.2.2.2.2.2⟩
                rw [HXB.out.trans HX.out]
                rfl
              · have HN2 := Lib.hid (nx hno.out (by rw [hesc]; rfl))
                clear hno hesc hO
                go_wp2_with fail
                refine (CN.out _).mono ?_
                rintro e3 w3 ⟨rfl, k3⟩
                have s3a := keepe19 k3 sr
                clear k3 sr
                go_upto_region 8 with (fail)
                have s3 := drewe19 s3a
                clear s3a
                refine wp_region_held_drew (S := (fun w' => cb12 w' (w.heap.size) (.slice At nt ct) (.slice Ak nk ck) (.int .i64 a) (.int .i64 b) (.int .i64 c) (.int .i64 d) (.int .i64 e) (.int .i64 W) (.int .i64 H) (x) (r) (y) (cb3 w' (w.heap.size + 1) (.int .i64 T) (.int .i64 Z) (.slice (some ⟨gu, ou, none⟩) N cp) (cb4 w' (w1.heap.size) (.int .i64 sx) (.int .i64 (j : Int)) (.int .i64 ax) (.int .i64 tx) (Kp w w'))))) (by kernel_rfl) ?_ (fun hHeld => ?_)
                · exact s3
                refine tk 0 ⟨some 40, _, _, _, _, _⟩ ?_ rfl (by kernel_rfl) (fun _ _ _ h => h) (by rfl) ?_ (by assumption) ?_
                rotate_left
                · intro w hSw; (try dsimp only at hSw); go_simp; (all_goals with_reducible rfl)
                simp only [Act.put, sA, sB, sC]
                refine tk 1 ⟨some 41, _, _, _, _, _⟩ ?_ rfl (by kernel_rfl) (fun _ _ _ h => h) (by rfl) ?_ (by assumption) ?_
                rotate_left
                · intro w hSw; (try dsimp only at hSw); go_simp; (all_goals with_reducible rfl)
                simp only [Act.put, sA, sB, sC]
                refine tk 2 ⟨some 42, _, _, _, _, _⟩ ?_ rfl (by kernel_rfl) (fun _ _ _ h => h) (by rfl) ?_ (by assumption) ?_
                rotate_left
                · intro w hSw; (try dsimp only at hSw); go_simp; (all_goals with_reducible rfl)
                simp only [Act.put, sA, sB, sC]
                refine tk 3 ⟨some 43, _, _, _, _, _⟩ ?_ rfl (by kernel_rfl) (fun _ _ _ h => h) (by rfl) ?_ (by assumption) ?_
                rotate_left
                · intro w hSw; (try dsimp only at hSw); go_simp; (all_goals with_reducible rfl)
                simp only [Act.put, sA, sB, sC]
                refine tk 4 ⟨some 44, _, _, _, _, _⟩ ?_ rfl (by kernel_rfl) (fun _ _ _ h => h) (by rfl) ?_ (by assumption) ?_
                rotate_left
                · intro w hSw; (try dsimp only at hSw); go_simp; (all_goals with_reducible rfl)
                simp only [Act.put, sA, sB, sC]
                refine tk 5 ⟨some 45, _, _, _, _, _⟩ ?_ rfl (by kernel_rfl) (fun _ _ _ h => h) (by rfl) ?_ (by assumption) ?_
                rotate_left
                · intro w hSw; (try dsimp only at hSw); go_simp; (all_goals with_reducible rfl)
                simp only [Act.put, sA, sB, sC]
                refine tk 6 ⟨some 46, _, _, _, _, _⟩ ?_ rfl (by kernel_rfl) (fun _ _ _ h => h) (by rfl) ?_ (by assumption) ?_
                rotate_left
                · intro w hSw; (try dsimp only at hSw); go_simp; (all_goals with_reducible rfl)
                simp only [Act.put, sA, sB, sC]
                refine wpAnyH_ready (rs := [7]) (by kernel_rfl) (by simp) ?_
                refine AllReadyH.cons (o := ⟨some 47, _, _, _, _, _⟩) rfl (fun K hK => ?_) AllReadyH.nil
                go_simp
                refine (CC.out _ (HB.out.keep hHeld.2.2.2.2.2.2.2.2.2.2.2.2.2.2.2.2.2.2.2)).mono ?_; rintro e4 w4 ⟨rfl, k4⟩; have s4 := keepe19 k4 hHeld
                go_wp2_with fail
                refine hK.out _ _ ?_ (fun hHeld => ?_)
                · (try dsimp only); (first | assumption)
                clear hK K
                try simp only [Act.put, sA, sB, sC]
                refine tk 8 ⟨some 48, _, _, _, _, _⟩ ?_ rfl (by kernel_rfl) (fun _ _ _ h => h) (by rfl) ?_ (by assumption) ?_
                rotate_left
                · intro w hSw; (try dsimp only at hSw); go_simp; (all_goals with_reducible rfl)
                simp only [Act.put, sA, sB, sC]
                refine tk 9 ⟨some 49, _, _, _, _, _⟩ ?_ rfl (by kernel_rfl) (fun _ _ _ h => h) (by rfl) ?_ (by assumption) ?_
                rotate_left
                · intro w hSw; (try dsimp only at hSw); go_simp; (all_goals with_reducible rfl)
                simp only [Act.put, sA, sB, sC]
                refine tk 10 ⟨some 50, _, _, _, _, _⟩ ?_ rfl (by kernel_rfl) (fun _ _ _ h => h) (by rfl) ?_ (by assumption) ?_
                rotate_left
                · intro w hSw; (try dsimp only at hSw); go_simp; (all_goals with_reducible rfl)
                simp only [Act.put, sA, sB, sC]
                refine tk 11 ⟨some 51, _, _, _, _, _⟩ ?_ rfl (by kernel_rfl) (fun _ _ _ h => h) (by rfl) ?_ (by assumption) ?_
                rotate_left
                · intro w hSw; (try dsimp only at hSw); go_simp; (all_goals with_reducible rfl)
                simp only [Act.put, sA, sB, sC]
                refine tk 12 ⟨some 52, _, _, _, _, _⟩ ?_ rfl (by kernel_rfl) (fun _ _ _ h => h) (by rfl) ?_ (by assumption) ?_
                rotate_left
                · intro w hSw; (try dsimp only at hSw); go_simp; (all_goals with_reducible rfl)
                simp only [Act.put, sA, sB, sC]
                refine tk 14 ⟨some 54, _, _, _, _, _⟩ ?_ rfl (by kernel_rfl) (fun _ _ _ h => h) (by rfl) ?_ (by assumption) ?_
                rotate_left
                · intro w hSw; (try dsimp only at hSw); go_simp; (all_goals with_reducible rfl)
                simp only [Act.put, sA, sB, sC]
                refine tk 15 ⟨some 55, _, _, _, _, _⟩ ?_ rfl (by kernel_rfl) (fun _ _ _ h => h) (by rfl) ?_ (by assumption) ?_
                rotate_left
                · intro w hSw; (try dsimp only at hSw); go_simp; (all_goals with_reducible rfl)
                simp only [Act.put, sA, sB, sC]
                refine tk 16 ⟨some 56, _, _, _, _, _⟩ ?_ rfl (by kernel_rfl) (fun _ _ _ h => h) (by rfl) ?_ (by assumption) ?_
                rotate_left
                · intro w hSw; (try dsimp only at hSw); go_simp; (all_goals with_reducible rfl)
                simp only [Act.put, sA, sB, sC]
                refine wpAnyH_ready (rs := [13]) (by kernel_rfl) (by simp) ?_
                refine AllReadyH.cons (o := ⟨some 53, _, _, _, _, _⟩) rfl (fun K hK => ?_) AllReadyH.nil
                go_simp
                refine (CO.out _ (HS.out.keep hHeld.2.2.2.2.2.2.2.2.2.2.2.2.2.2.2.2.2.2.2)).mono ?_; rintro e5 w5 ⟨rfl, k5⟩; have s5 := keepe19 k5 hHeld
                go_wp2_with fail
                refine hK.out _ _ ?_ (fun hHeld => ?_)
                · (try dsimp only); (first | assumption)
                clear hK K
                try simp only [Act.put, sA, sB, sC]
                refine tk 17 ⟨some 57, _, _, _, _, _⟩ ?_ rfl (by kernel_rfl) (fun _ _ _ h => h) (by rfl) ?_ (by assumption) ?_
                rotate_left
                · intro w hSw; (try dsimp only at hSw); go_simp; (all_goals with_reducible rfl)
                simp only [Act.put, sA, sB, sC]
                refine tk 18 ⟨some 58, _, _, _, _, _⟩ ?_ rfl (by kernel_rfl) (fun _ _ _ h => h) (by rfl) ?_ (by assumption) ?_
                rotate_left
                · intro w hSw; (try dsimp only at hSw); go_simp; (all_goals with_reducible rfl)
                simp only [Act.put, sA, sB, sC]
                refine tk 19 ⟨some 59, _, _, _, _, _⟩ ?_ rfl (by kernel_rfl) (fun _ _ _ h => h) (by rfl) ?_ (by assumption) ?_
                rotate_left
                · intro w hSw; (try dsimp only at hSw); go_simp; (all_goals with_reducible rfl)
                simp only [Act.put, sA, sB, sC]
                refine tk 20 ⟨some 60, _, _, _, _, _⟩ ?_ rfl (by kernel_rfl) (fun _ _ _ h => h) (by rfl) ?_ (by assumption) ?_
                rotate_left
                · intro w hSw; (try dsimp only at hSw); go_simp; (all_goals with_reducible rfl)
                simp only [Act.put, sA, sB, sC]
                refine tk 21 ⟨some 61, _, _, _, _, _⟩ ?_ rfl (by kernel_rfl) (fun _ _ _ h => h) (by rfl) ?_ (by assumption) ?_
                rotate_left
                · intro w hSw; (try dsimp only at hSw); go_simp; (all_goals with_reducible rfl)
                simp only [Act.put, sA, sB, sC]
                refine tk 22 ⟨some 62, _, _, _, _, _⟩ ?_ rfl (by kernel_rfl) (fun _ _ _ h => h) (by rfl) ?_ (by assumption) ?_
                rotate_left
                · intro w hSw; (try dsimp only at hSw); go_simp; (all_goals with_reducible rfl)
                simp only [Act.put, sA, sB, sC]
                refine tk 23 ⟨some 63, _, _, _, _, _⟩ ?_ rfl (by kernel_rfl) (fun _ _ _ h => h) (by rfl) ?_ (by assumption) ?_
                rotate_left
                · intro w hSw; (try dsimp only at hSw); go_simp; (all_goals with_reducible rfl)
                simp only [Act.put, sA, sB, sC]
                refine tk 24 ⟨some 64, _, _, _, _, _⟩ ?_ rfl (by kernel_rfl) (fun _ _ _ h => h) (by rfl) ?_ (by assumption) ?_
                rotate_left
                · intro w hSw; (try dsimp only at hSw); go_simp; (all_goals with_reducible rfl)
                simp only [Act.put, sA, sB, sC]
                refine tk 25 ⟨some 65, _, _, _, _, _⟩ ?_ rfl (by kernel_rfl) (fun _ _ _ h => h) (by rfl) ?_ (by assumption) ?_
                rotate_left
                · intro w hSw; (try dsimp only at hSw); go_simp; (all_goals with_reducible rfl)
                simp only [Act.put, sA, sB, sC]
                refine wpAnyH_ready (rs := [26]) (by kernel_rfl) (by simp) ?_
                refine AllReadyH.cons (o := ⟨some 66, _, _, _, _, _⟩) rfl (fun K hK => ?_) AllReadyH.nil
                go_simp
                refine (CQ.out _ (HB.out.keep hHeld.2.2.2.2.2.2.2.2.2.2.2.2.2.2.2.2.2.2.2) (HS.out.keep hHeld.2.2.2.2.2.2.2.2.2.2.2.2.2.2.2.2.2.2.2)).mono ?_; rintro e6 w6 ⟨rfl, k6⟩; have s6 := keepe19 k6 hHeld
                go_wp2_with fail
                refine hK.out _ _ ?_ (fun hHeld => ?_)
                · (try dsimp only); (first | assumption)
                clear hK K
                try simp only [Act.put, sA, sB, sC]
                refine tk 27 ⟨some 67, _, _, _, _, _⟩ ?_ rfl (by kernel_rfl) (fun _ _ _ h => h) (by rfl) ?_ (by assumption) ?_
                rotate_left
                · intro w hSw; (try dsimp only at hSw); go_simp; (all_goals with_reducible rfl)
                simp only [Act.put, sA, sB, sC]
                refine tk 28 ⟨some 68, _, _, _, _, _⟩ ?_ rfl (by kernel_rfl) (fun _ _ _ h => h) (by rfl) ?_ (by assumption) ?_
                rotate_left
                · intro w hSw; (try dsimp only at hSw); go_simp; (all_goals with_reducible rfl)
                simp only [Act.put, sA, sB, sC]
                refine wpAnyH_done (by kernel_rfl) ?_ _
                go_wp2_with fail
                go_roundw
                case rel => exact ⟨q + 1, by omega, by go_num, HN2, hHeld⟩
                case measure => simp [intOf]; omega
            · have hO2 : (O != 1 - sx) = false := by simp [bne, hO]
              rw [hO] at hesc
              have HN2 := Lib.hid (nx hno.out (by rw [hesc]; rfl))
              clear hno hesc CQ hO
              go_wp2_with fail
              refine (CN.out _).mono ?_
              rintro e3 w3 ⟨rfl, k3⟩
              have s3a := keepe19 k3 sr
              clear k3 sr
              go_upto_region 8 with (fail)
              have s3 := drewe19 s3a
              clear s3a
              refine wp_region_held_drew (S := (fun w' => cb12 w' (w.heap.size) (.slice At nt ct) (.slice Ak nk ck) (.int .i64 a) (.int .i64 b) (.int .i64 c) (.int .i64 d) (.int .i64 e) (.int .i64 W) (.int .i64 H) (x) (r) (y) (cb3 w' (w.heap.size + 1) (.int .i64 T) (.int .i64 Z) (.slice (some ⟨gu, ou, none⟩) N cp) (cb4 w' (w1.heap.size) (.int .i64 sx) (.int .i64 (j : Int)) (.int .i64 ax) (.int .i64 tx) (Kp w w'))))) (by kernel_rfl) ?_ (fun hHeld => ?_)
              · exact s3
              refine tk 0 ⟨some 40, _, _, _, _, _⟩ ?_ rfl (by kernel_rfl) (fun _ _ _ h => h) (by rfl) ?_ (by assumption) ?_
              rotate_left
              · intro w hSw; (try dsimp only at hSw); go_simp; (all_goals with_reducible rfl)
              simp only [Act.put, sA, sB, sC]
              refine tk 1 ⟨some 41, _, _, _, _, _⟩ ?_ rfl (by kernel_rfl) (fun _ _ _ h => h) (by rfl) ?_ (by assumption) ?_
              rotate_left
              · intro w hSw; (try dsimp only at hSw); go_simp; (all_goals with_reducible rfl)
              simp only [Act.put, sA, sB, sC]
              refine tk 2 ⟨some 42, _, _, _, _, _⟩ ?_ rfl (by kernel_rfl) (fun _ _ _ h => h) (by rfl) ?_ (by assumption) ?_
              rotate_left
              · intro w hSw; (try dsimp only at hSw); go_simp; (all_goals with_reducible rfl)
              simp only [Act.put, sA, sB, sC]
              refine tk 3 ⟨some 43, _, _, _, _, _⟩ ?_ rfl (by kernel_rfl) (fun _ _ _ h => h) (by rfl) ?_ (by assumption) ?_
              rotate_left
              · intro w hSw; (try dsimp only at hSw); go_simp; (all_goals with_reducible rfl)
              simp only [Act.put, sA, sB, sC]
              refine tk 4 ⟨some 44, _, _, _, _, _⟩ ?_ rfl (by kernel_rfl) (fun _ _ _ h => h) (by rfl) ?_ (by assumption) ?_
              rotate_left
              · intro w hSw; (try dsimp only at hSw); go_simp; (all_goals with_reducible rfl)
              simp only [Act.put, sA, sB, sC]
              refine tk 5 ⟨some 45, _, _, _, _, _⟩ ?_ rfl (by kernel_rfl) (fun _ _ _ h => h) (by rfl) ?_ (by assumption) ?_
              rotate_left
              · intro w hSw; (try dsimp only at hSw); go_simp; (all_goals with_reducible rfl)
              simp only [Act.put, sA, sB, sC]
              refine tk 6 ⟨some 46, _, _, _, _, _⟩ ?_ rfl (by kernel_rfl) (fun _ _ _ h => h) (by rfl) ?_ (by assumption) ?_
              rotate_left
              · intro w hSw; (try dsimp only at hSw); go_simp; (all_goals with_reducible rfl)
              simp only [Act.put, sA, sB, sC]
              refine wpAnyH_ready (rs := [7]) (by kernel_rfl) (by simp) ?_
              refine AllReadyH.cons (o := ⟨some 47, _, _, _, _, _⟩) rfl (fun K hK => ?_) AllReadyH.nil
              go_simp
              refine (CC.out _ (HB.out.keep hHeld.2.2.2.2.2.2.2.2.2.2.2.2.2.2.2.2.2.2.2)).mono ?_; rintro e4 w4 ⟨rfl, k4⟩; have s4 := keepe19 k4 hHeld
              go_wp2_with fail
              refine hK.out _ _ ?_ (fun hHeld => ?_)
              · (try dsimp only); (first | assumption)
              clear hK K
              try simp only [Act.put, sA, sB, sC]
              refine tk 8 ⟨some 48, _, _, _, _, _⟩ ?_ rfl (by kernel_rfl) (fun _ _ _ h => h) (by rfl) ?_ (by assumption) ?_
              rotate_left
              · intro w hSw; (try dsimp only at hSw); go_simp; (all_goals with_reducible rfl)
              simp only [Act.put, sA, sB, sC]
              refine tk 9 ⟨some 49, _, _, _, _, _⟩ ?_ rfl (by kernel_rfl) (fun _ _ _ h => h) (by rfl) ?_ (by assumption) ?_
              rotate_left
              · intro w hSw; (try dsimp only at hSw); go_simp; (all_goals with_reducible rfl)
              simp only [Act.put, sA, sB, sC]
              refine tk 10 ⟨some 50, _, _, _, _, _⟩ ?_ rfl (by kernel_rfl) (fun _ _ _ h => h) (by rfl) ?_ (by assumption) ?_
              rotate_left
              · intro w hSw; (try dsimp only at hSw); go_simp; (all_goals with_reducible rfl)
              simp only [Act.put, sA, sB, sC]
              refine tk 11 ⟨some 51, _, _, _, _, _⟩ ?_ rfl (by kernel_rfl) (fun _ _ _ h => h) (by rfl) ?_ (by assumption) ?_
              rotate_left
              · intro w hSw; (try dsimp only at hSw); go_simp; (all_goals with_reducible rfl)
              simp only [Act.put, sA, sB, sC]
              refine tk 12 ⟨some 52, _, _, _, _, _⟩ ?_ rfl (by kernel_rfl) (fun _ _ _ h => h) (by rfl) ?_ (by assumption) ?_
              rotate_left
              · intro w hSw; (try dsimp only at hSw); go_simp; (all_goals with_reducible rfl)
              simp only [Act.put, sA, sB, sC]
              refine tk 14 ⟨some 54, _, _, _, _, _⟩ ?_ rfl (by kernel_rfl) (fun _ _ _ h => h) (by rfl) ?_ (by assumption) ?_
              rotate_left
              · intro w hSw; (try dsimp only at hSw); go_simp; (all_goals with_reducible rfl)
              simp only [Act.put, sA, sB, sC]
              refine tk 15 ⟨some 55, _, _, _, _, _⟩ ?_ rfl (by kernel_rfl) (fun _ _ _ h => h) (by rfl) ?_ (by assumption) ?_
              rotate_left
              · intro w hSw; (try dsimp only at hSw); go_simp; (all_goals with_reducible rfl)
              simp only [Act.put, sA, sB, sC]
              refine tk 16 ⟨some 56, _, _, _, _, _⟩ ?_ rfl (by kernel_rfl) (fun _ _ _ h => h) (by rfl) ?_ (by assumption) ?_
              rotate_left
              · intro w hSw; (try dsimp only at hSw); go_simp; (all_goals with_reducible rfl)
              simp only [Act.put, sA, sB, sC]
              refine wpAnyH_ready (rs := [13]) (by kernel_rfl) (by simp) ?_
              refine AllReadyH.cons (o := ⟨some 53, _, _, _, _, _⟩) rfl (fun K hK => ?_) AllReadyH.nil
              go_simp
              refine (CO.out _ (HS.out.keep hHeld.2.2.2.2.2.2.2.2.2.2.2.2.2.2.2.2.2.2.2)).mono ?_; rintro e5 w5 ⟨rfl, k5⟩; have s5 := keepe19 k5 hHeld
              go_wp2_with fail
              refine hK.out _ _ ?_ (fun hHeld => ?_)
              · (try dsimp only); (first | assumption)
              clear hK K
              try simp only [Act.put, sA, sB, sC]
              refine tk 17 ⟨some 57, _, _, _, _, _⟩ ?_ rfl (by kernel_rfl) (fun _ _ _ h => h) (by rfl) ?_ (by assumption) ?_
              rotate_left
              · intro w hSw; (try dsimp only at hSw); go_simp; (all_goals with_reducible rfl)
              simp only [Act.put, sA, sB, sC]
              refine tk 18 ⟨some 58, _, _, _, _, _⟩ ?_ rfl (by kernel_rfl) (fun _ _ _ h => h) (by rfl) ?_ (by assumption) ?_
              rotate_left
              · intro w hSw; (try dsimp only at hSw); go_simp; (all_goals with_reducible rfl)
              simp only [Act.put, sA, sB, sC]
              refine tk 19 ⟨some 59, _, _, _, _, _⟩ ?_ rfl (by kernel_rfl) (fun _ _ _ h => h) (by rfl) ?_ (by assumption) ?_
              rotate_left
              · intro w hSw; (try dsimp only at hSw); go_simp; (all_goals with_reducible rfl)
              simp only [Act.put, sA, sB, sC]
              refine tn 20 ⟨some 60, _, _, _, _, _⟩ rfl (by kernel_rfl) (fun _ _ _ h => h) (by rfl) (by assumption) ?_
              simp only [Act.put, sA, sB, sC]
              refine tn 21 ⟨some 61, _, _, _, _, _⟩ rfl (by kernel_rfl) (fun _ _ _ h => h) (by rfl) (by assumption) ?_
              simp only [Act.put, sA, sB, sC]
              refine tn 22 ⟨some 62, _, _, _, _, _⟩ rfl (by kernel_rfl) (fun _ _ _ h => h) (by rfl) (by assumption) ?_
              simp only [Act.put, sA, sB, sC]
              refine tn 23 ⟨some 63, _, _, _, _, _⟩ rfl (by kernel_rfl) (fun _ _ _ h => h) (by rfl) (by assumption) ?_
              simp only [Act.put, sA, sB, sC]
              refine tn 24 ⟨some 64, _, _, _, _, _⟩ rfl (by kernel_rfl) (fun _ _ _ h => h) (by rfl) (by assumption) ?_
              simp only [Act.put, sA, sB, sC]
              refine tn 25 ⟨some 65, _, _, _, _, _⟩ rfl (by kernel_rfl) (fun _ _ _ h => h) (by rfl) (by assumption) ?_
              simp only [Act.put, sA, sB, sC]
              refine wpAnyH_ready (rs := [26]) (by kernel_rfl) (by simp) ?_
              refine AllReadyH.cons (o := ⟨some 66, _, _, _, _, _⟩) rfl (fun K hK => ?_) AllReadyH.nil
              go_simp
              refine hK.out _ _ ?_ (fun hHeld => ?_)
              · (try dsimp only); (first | assumption)
              clear hK K
              try simp only [Act.put, sA, sB, sC]
              refine tn 27 ⟨some 67, _, _, _, _, _⟩ rfl (by kernel_rfl) (fun _ _ _ h => h) (by rfl) (by assumption) ?_
              simp only [Act.put, sA, sB, sC]
              refine tk 28 ⟨some 68, _, _, _, _, _⟩ ?_ rfl (by kernel_rfl) (fun _ _ _ h => h) (by rfl) ?_ (by assumption) ?_
              rotate_left
              · intro w hSw; (try dsimp only at hSw); go_simp; (all_goals with_reducible rfl)
              simp only [Act.put, sA, sB, sC]
              refine wpAnyH_done (by kernel_rfl) ?_ _
              go_wp2_with fail
              go_roundw
              case rel => exact ⟨q + 1, by omega, by go_num, HN2, hHeld⟩
              case measure => simp [intOf]; omega
      · obtain rfl : q = 6 := by omega
        have HX : Hid (exN (fun q => escB l m lt lr ld W H us ⟨sx, (j : Int), ax, tx⟩ ax q) 6 = false) := Lib.hid (exN_no hno.out)
        clear hno
        go_wp2_with fail
        go_ret2
        refine ⟨?_, sr.2.2.2.2.2.2.2.2.2.2.2.2.2.2.2.2.2.2.2⟩
        rw [HXB.out.trans HX.out]
        rfl

end Go.Proofs.YtiojmbbdcccokaaGreatDoor
