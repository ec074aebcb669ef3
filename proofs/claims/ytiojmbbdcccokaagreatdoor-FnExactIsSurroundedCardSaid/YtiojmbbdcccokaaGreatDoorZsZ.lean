/-
  InZone, ZoneHexes, ZoneSources, ContestedHexes, MustStop of the reference. Nothing that was there is changed.
-/
import Derived.Test.YtiojmbbdcccokaaGreatDoorZsE
import Derived.Test.YtiojmbbdcccokaaGreatDoorQa
import Derived.Test.YtiojmbbdcccokaaGreatDoorQa
namespace Go.Proofs.YtiojmbbdcccokaaGreatDoor
open Go.RowKit

theorem keepe19 {W0 w w1 : World} {p0 p1 p2 p3 p4 p5 p6 p7 p8 p9 p10 p11 p12 p13 p14 p15 p16 p17 p18 : Addr} {v0 v1 v2 v3 v4 v5 v6 v7 v8 v9 v10 v11 v12 v13 v14 v15 v16 v17 v18 : Value} (k : Kp w w1) (h : w.cell? p0 = some v0 ∧ w.cell? p1 = some v1 ∧ w.cell? p2 = some v2 ∧ w.cell? p3 = some v3 ∧ w.cell? p4 = some v4 ∧ w.cell? p5 = some v5 ∧ w.cell? p6 = some v6 ∧ w.cell? p7 = some v7 ∧ w.cell? p8 = some v8 ∧ w.cell? p9 = some v9 ∧ w.cell? p10 = some v10 ∧ w.cell? p11 = some v11 ∧ w.cell? p12 = some v12 ∧ w.cell? p13 = some v13 ∧ w.cell? p14 = some v14 ∧ w.cell? p15 = some v15 ∧ w.cell? p16 = some v16 ∧ w.cell? p17 = some v17 ∧ w.cell? p18 = some v18 ∧ Kp W0 w) : w1.cell? p0 = some v0 ∧ w1.cell? p1 = some v1 ∧ w1.cell? p2 = some v2 ∧ w1.cell? p3 = some v3 ∧ w1.cell? p4 = some v4 ∧ w1.cell? p5 = some v5 ∧ w1.cell? p6 = some v6 ∧ w1.cell? p7 = some v7 ∧ w1.cell? p8 = some v8 ∧ w1.cell? p9 = some v9 ∧ w1.cell? p10 = some v10 ∧ w1.cell? p11 = some v11 ∧ w1.cell? p12 = some v12 ∧ w1.cell? p13 = some v13 ∧ w1.cell? p14 = some v14 ∧ w1.cell? p15 = some v15 ∧ w1.cell? p16 = some v16 ∧ w1.cell? p17 = some v17 ∧ w1.cell? p18 = some v18 ∧ Kp W0 w1 :=
  ⟨k.cell h.1, k.cell h.2.1, k.cell h.2.2.1, k.cell h.2.2.2.1, k.cell h.2.2.2.2.1, k.cell h.2.2.2.2.2.1, k.cell h.2.2.2.2.2.2.1, k.cell h.2.2.2.2.2.2.2.1, k.cell h.2.2.2.2.2.2.2.2.1, k.cell h.2.2.2.2.2.2.2.2.2.1, k.cell h.2.2.2.2.2.2.2.2.2.2.1, k.cell h.2.2.2.2.2.2.2.2.2.2.2.1, k.cell h.2.2.2.2.2.2.2.2.2.2.2.2.1, k.cell h.2.2.2.2.2.2.2.2.2.2.2.2.2.1, k.cell h.2.2.2.2.2.2.2.2.2.2.2.2.2.2.1, k.cell h.2.2.2.2.2.2.2.2.2.2.2.2.2.2.2.1, k.cell h.2.2.2.2.2.2.2.2.2.2.2.2.2.2.2.2.1, k.cell h.2.2.2.2.2.2.2.2.2.2.2.2.2.2.2.2.2.1, k.cell h.2.2.2.2.2.2.2.2.2.2.2.2.2.2.2.2.2.2.1, h.2.2.2.2.2.2.2.2.2.2.2.2.2.2.2.2.2.2.2.trans k⟩
theorem drewe19 {W0 w : World} {p0 p1 p2 p3 p4 p5 p6 p7 p8 p9 p10 p11 p12 p13 p14 p15 p16 p17 p18 : Addr} {v0 v1 v2 v3 v4 v5 v6 v7 v8 v9 v10 v11 v12 v13 v14 v15 v16 v17 v18 : Value} (h : w.cell? p0 = some v0 ∧ w.cell? p1 = some v1 ∧ w.cell? p2 = some v2 ∧ w.cell? p3 = some v3 ∧ w.cell? p4 = some v4 ∧ w.cell? p5 = some v5 ∧ w.cell? p6 = some v6 ∧ w.cell? p7 = some v7 ∧ w.cell? p8 = some v8 ∧ w.cell? p9 = some v9 ∧ w.cell? p10 = some v10 ∧ w.cell? p11 = some v11 ∧ w.cell? p12 = some v12 ∧ w.cell? p13 = some v13 ∧ w.cell? p14 = some v14 ∧ w.cell? p15 = some v15 ∧ w.cell? p16 = some v16 ∧ w.cell? p17 = some v17 ∧ w.cell? p18 = some v18 ∧ Kp W0 w) : w.drew.cell? p0 = some v0 ∧ w.drew.cell? p1 = some v1 ∧ w.drew.cell? p2 = some v2 ∧ w.drew.cell? p3 = some v3 ∧ w.drew.cell? p4 = some v4 ∧ w.drew.cell? p5 = some v5 ∧ w.drew.cell? p6 = some v6 ∧ w.drew.cell? p7 = some v7 ∧ w.drew.cell? p8 = some v8 ∧ w.drew.cell? p9 = some v9 ∧ w.drew.cell? p10 = some v10 ∧ w.drew.cell? p11 = some v11 ∧ w.drew.cell? p12 = some v12 ∧ w.drew.cell? p13 = some v13 ∧ w.drew.cell? p14 = some v14 ∧ w.drew.cell? p15 = some v15 ∧ w.drew.cell? p16 = some v16 ∧ w.drew.cell? p17 = some v17 ∧ w.drew.cell? p18 = some v18 ∧ Kp W0 w.drew :=
  ⟨h.1, h.2.1, h.2.2.1, h.2.2.2.1, h.2.2.2.2.1, h.2.2.2.2.2.1, h.2.2.2.2.2.2.1, h.2.2.2.2.2.2.2.1, h.2.2.2.2.2.2.2.2.1, h.2.2.2.2.2.2.2.2.2.1, h.2.2.2.2.2.2.2.2.2.2.1, h.2.2.2.2.2.2.2.2.2.2.2.1, h.2.2.2.2.2.2.2.2.2.2.2.2.1, h.2.2.2.2.2.2.2.2.2.2.2.2.2.1, h.2.2.2.2.2.2.2.2.2.2.2.2.2.2.1, h.2.2.2.2.2.2.2.2.2.2.2.2.2.2.2.1, h.2.2.2.2.2.2.2.2.2.2.2.2.2.2.2.2.1, h.2.2.2.2.2.2.2.2.2.2.2.2.2.2.2.2.2.1, h.2.2.2.2.2.2.2.2.2.2.2.2.2.2.2.2.2.2.1, h.2.2.2.2.2.2.2.2.2.2.2.2.2.2.2.2.2.2.2.drew⟩

set_option maxRecDepth 100000 in
set_option maxHeartbeats 4000000 in
theorem sHas_any (At Ak : Option Addr) (nt nk ct ck : Nat) (l : List Ter) (m : List Knd) (a b c d e W H : Int) (x r y : Value) (lt lr ld : List Int) (T Z : Int) (u : Value) (us : List Uni) (un : Int) (w : World) (hB : BrdAt w At Ak nt nk l m x r y lt lr ld) (hS : StaAt w u us) :
    Calls Tryz.prog 45 #[bv (.slice At nt ct) (.slice Ak nk ck) a b c d e W H x r y, sv T Z u, .int .i64 un] w fun e' w' => e' = .returned (.bool ((brdOk ⟨l, m, a, b, c, d, e⟩ W H lt lr ld && staOk ⟨l, m, a, b, c, d, e⟩ W H lt T Z us) && inB un us.length)) ∧ Kp w w' := by
  obtain ⟨A, cp, rfl, _⟩ := hS.rd
  have hb := hS.b
  have HB := Lib.hid hB
  have HS := Lib.hid hS
  have CG := Lib.hid (fun (w : World) hB hS => sGood_any At Ak nt nk ct ck l m a b c d e W H x r y lt lr ld T Z (.slice A us.length cp) us w hB hS)
  generalize hN : us.length = N at *
  have KA : Kp w ((w.alloc (.cells #[.slice At nt ct, .slice Ak nk ck, .int .i64 a, .int .i64 b, .int .i64 c, .int .i64 d, .int .i64 e, .int .i64 W, .int .i64 H, x, r, y] 44)).alloc (.cells #[.int .i64 T, .int .i64 Z, .slice A N cp] 48)) := ((Kp.refl w).alloc _).alloc _
  have s0 : cb12 ((w.alloc (.cells #[.slice At nt ct, .slice Ak nk ck, .int .i64 a, .int .i64 b, .int .i64 c, .int .i64 d, .int .i64 e, .int .i64 W, .int .i64 H, x, r, y] 44)).alloc (.cells #[.int .i64 T, .int .i64 Z, .slice A N cp] 48)) (w.heap.size) (.slice At nt ct) (.slice Ak nk ck) (.int .i64 a) (.int .i64 b) (.int .i64 c) (.int .i64 d) (.int .i64 e) (.int .i64 W) (.int .i64 H) (x) (r) (y) (cb3 ((w.alloc (.cells #[.slice At nt ct, .slice Ak nk ck, .int .i64 a, .int .i64 b, .int .i64 c, .int .i64 d, .int .i64 e, .int .i64 W, .int .i64 H, x, r, y] 44)).alloc (.cells #[.int .i64 T, .int .i64 Z, .slice A N cp] 48)) (w.heap.size + 1) (.int .i64 T) (.int .i64 Z) (.slice A N cp) (Kp w ((w.alloc (.cells #[.slice At nt ct, .slice Ak nk ck, .int .i64 a, .int .i64 b, .int .i64 c, .int .i64 d, .int .i64 e, .int .i64 W, .int .i64 H, x, r, y] 44)).alloc (.cells #[.int .i64 T, .int .i64 Z, .slice A N cp] 48)))) := ⟨by simp [go_sem], by simp [go_sem], by simp [go_sem], by simp [go_sem], by simp [go_sem], by simp [go_sem], by simp [go_sem], by simp [go_sem], by simp [go_sem], by simp [go_sem], by simp [go_sem], by simp [go_sem], by simp [go_sem], by simp [go_sem], by simp [go_sem], KA⟩
  have C1 := Lib.hid (fun (w : World) => l1In_lt un (N : Int) ((N : Int) - 1) w rfl)
  clear hB hS hN
  generalize inB un N = G at C1 ⊢
  cases hg : brdOk ⟨l, m, a, b, c, d, e⟩ W H lt lr ld && staOk ⟨l, m, a, b, c, d, e⟩ W H lt T Z us
  · rw [hg] at CG
    rw [Bool.false_and]
    clear hg C1
    go_enter Tryz.func45, Tryz.ntmps45
    go_wp2_with fail
    refine (CG.out _ (HB.out.keep KA) (HS.out.keep KA)).mono ?_
    rintro e1 w1 ⟨rfl, k1⟩
    go_wp2_with fail
    go_ret
    exact ⟨rfl, KA.trans k1⟩
  · rw [hg] at CG
    rw [Bool.true_and]
    clear hg
    go_enter Tryz.func45, Tryz.ntmps45
    go_wp2_with fail
    refine (CG.out _ (HB.out.keep KA) (HS.out.keep KA)).mono ?_
    rintro e1 w1 ⟨rfl, k1⟩
    have s1 := keepe15 k1 s0
    clear s0 k1
    go_wp2_with fail
    refine (C1.out _).mono ?_
    rintro e2 w2 ⟨rfl, rfl⟩
    go_wp2_with fail
    go_ret
    exact ⟨ret_bool (by simp), s1.2.2.2.2.2.2.2.2.2.2.2.2.2.2.2⟩




set_option maxRecDepth 100000 in
set_option maxHeartbeats 4000000 in
theorem specContestedHexes_any (At Ak : Option Addr) (nt nk ct ck : Nat) (l : List Ter) (m : List Knd) (a b c d e W H : Int) (x r y : Value) (lt lr ld : List Int) (T Z : Int) (u : Value) (us : List Uni) (w : World) (hB : BrdAt w At Ak nt nk l m x r y lt lr ld) (hS : StaAt w u us) :
    Calls Tryz.prog 9 #[bv (.slice At nt ct) (.slice Ak nk ck) a b c d e W H x r y, sv T Z u] w (ListPostI (brdOk ⟨l, m, a, b, c, d, e⟩ W H lt lr ld && staOk ⟨l, m, a, b, c, d, e⟩ W H lt T Z us) (conL l m lt lr ld W us) w) := by
  have KA : Kp w ((w.alloc (.cells #[.slice At nt ct, .slice Ak nk ck, .int .i64 a, .int .i64 b, .int .i64 c, .int .i64 d, .int .i64 e, .int .i64 W, .int .i64 H, x, r, y] 44)).alloc (.cells #[.int .i64 T, .int .i64 Z, u] 48)) := ((Kp.refl w).alloc _).alloc _
  have s0 : cb12 ((w.alloc (.cells #[.slice At nt ct, .slice Ak nk ck, .int .i64 a, .int .i64 b, .int .i64 c, .int .i64 d, .int .i64 e, .int .i64 W, .int .i64 H, x, r, y] 44)).alloc (.cells #[.int .i64 T, .int .i64 Z, u] 48)) (w.heap.size) (.slice At nt ct) (.slice Ak nk ck) (.int .i64 a) (.int .i64 b) (.int .i64 c) (.int .i64 d) (.int .i64 e) (.int .i64 W) (.int .i64 H) (x) (r) (y) (cb3 ((w.alloc (.cells #[.slice At nt ct, .slice Ak nk ck, .int .i64 a, .int .i64 b, .int .i64 c, .int .i64 d, .int .i64 e, .int .i64 W, .int .i64 H, x, r, y] 44)).alloc (.cells #[.int .i64 T, .int .i64 Z, u] 48)) (w.heap.size + 1) (.int .i64 T) (.int .i64 Z) (u) (Kp w ((w.alloc (.cells #[.slice At nt ct, .slice Ak nk ck, .int .i64 a, .int .i64 b, .int .i64 c, .int .i64 d, .int .i64 e, .int .i64 W, .int .i64 H, x, r, y] 44)).alloc (.cells #[.int .i64 T, .int .i64 Z, u] 48)))) := ⟨by simp [go_sem], by simp [go_sem], by simp [go_sem], by simp [go_sem], by simp [go_sem], by simp [go_sem], by simp [go_sem], by simp [go_sem], by simp [go_sem], by simp [go_sem], by simp [go_sem], by simp [go_sem], by simp [go_sem], by simp [go_sem], by simp [go_sem], KA⟩
  have HB := Lib.hid hB
  have HS := Lib.hid hS
  clear hB hS
  have CG := Lib.hid (fun (w : World) hB hS => sGood_any At Ak nt nk ct ck l m a b c d e W H x r y lt lr ld T Z u us w hB hS)
  cases hg0 : brdOk ⟨l, m, a, b, c, d, e⟩ W H lt lr ld && staOk ⟨l, m, a, b, c, d, e⟩ W H lt T Z us
  · rw [hg0] at CG
    clear hg0
    repeat (first | rw [Bool.true_and] | rw [Bool.and_true] | rw [Bool.false_and] | rw [Bool.and_false])
    go_enter Tryz.func9, Tryz.ntmps9
    go_wp2_with fail
    refine (CG.out _ (HB.out.keep s0.2.2.2.2.2.2.2.2.2.2.2.2.2.2.2) (HS.out.keep s0.2.2.2.2.2.2.2.2.2.2.2.2.2.2.2)).mono ?_
    rintro e1 w1 ⟨rfl, k1⟩
    have s1 := keepe15 k1 s0
    clear s0 k1
    go_wp2_with fail
    go_ret2
    exact ListPostI.no (s1.2.2.2.2.2.2.2.2.2.2.2.2.2.2.2)
  · rw [hg0] at CG
    have hok : brdOk ⟨l, m, a, b, c, d, e⟩ W H lt lr ld = true := by
      simp only [Bool.and_eq_true] at hg0
      exact hg0.1
    have hst : staOk ⟨l, m, a, b, c, d, e⟩ W H lt T Z us = true := by
      simp only [Bool.and_eq_true] at hg0
      exact hg0.2
    obtain ⟨p1, p2, p3, p4⟩ := mapOk_side (brdOk_map hok)
    have hlen := mapOk_len (brdOk_map hok)
    have CA : Hid (∀ j : Nat, j < lt.length → ∀ w, BrdAt w At Ak nt nk l m x r y lt lr ld → StaAt w u us → Calls Tryz.prog 31 #[bv (.slice At nt ct) (.slice Ak nk ck) a b c d e W H x r y, sv T Z u, .int .i64 (j : Int), .int .i64 0] w fun e' w' => e' = .returned (.bool (zonB l m lt lr ld W us (0) j)) ∧ Kp w w') := Lib.hid fun j hj w hB hS => zIn_any At Ak nt nk ct ck l m a b c d e W H x r y lt lr ld T Z u us j (0) w hB hS hok hst (onI_mk (by omega) (by omega))
    have CB : Hid (∀ j : Nat, j < lt.length → ∀ w, BrdAt w At Ak nt nk l m x r y lt lr ld → StaAt w u us → Calls Tryz.prog 31 #[bv (.slice At nt ct) (.slice Ak nk ck) a b c d e W H x r y, sv T Z u, .int .i64 (j : Int), .int .i64 1] w fun e' w' => e' = .returned (.bool (zonB l m lt lr ld W us (1) j)) ∧ Kp w w') := Lib.hid fun j hj w hB hS => zIn_any At Ak nt nk ct ck l m a b c d e W H x r y lt lr ld T Z u us j (1) w hB hS hok hst (onI_mk (by omega) (by omega))
    have CS : Hid (∀ w, Calls Tryz.prog 30 #[mp W H x r y] w fun e w' => e = .returned (.int .i64 (lt.length : Int)) ∧ Kp w w') := Lib.hid fun w => by
      have h := mSize_any W H x r y w p1 p2 p3 p4
      rw [← hlen] at h
      exact h
    have hn1 : lt.length ≤ 100 := by
      have hA := area_bd p1 p2 p3 p4
      omega
    have HL : Hid (conL l m lt lr ld W us = filN (fun j => zonB l m lt lr ld W us 0 j && zonB l m lt lr ld W us 1 j) lt.length) := Lib.hid rfl
    rw [HL.out]
    have HF : Hid (∀ j : Nat, (fun j : Nat => zonB l m lt lr ld W us 0 j && zonB l m lt lr ld W us 1 j) j = (zonB l m lt lr ld W us 0 j && zonB l m lt lr ld W us 1 j)) := Lib.hid fun j => rfl
    generalize (fun j : Nat => zonB l m lt lr ld W us 0 j && zonB l m lt lr ld W us 1 j) = F at HF ⊢
    generalize hn : lt.length = n at CA CB CS hn1 ⊢
    obtain ⟨j0, hj0, hz0, hs0, hb0⟩ := info_parts infoInt
    clear hok hst p1 p2 p3 p4 hlen hg0 HL hn
    repeat (first | rw [Bool.true_and] | rw [Bool.and_true] | rw [Bool.false_and] | rw [Bool.and_false])
    go_enter Tryz.func9, Tryz.ntmps9
    go_wp2_with fail
    refine (CG.out _ (HB.out.keep s0.2.2.2.2.2.2.2.2.2.2.2.2.2.2.2) (HS.out.keep s0.2.2.2.2.2.2.2.2.2.2.2.2.2.2.2)).mono ?_
    rintro e1 w1 ⟨rfl, k1⟩
    have s1 := keepe15 k1 s0
    clear s0 k1
    go_wp2_with fail
    go_loopw [6, 7] (fun v sq wx => ∃ q : Nat, q ≤ n ∧ sq = .int .i64 q ∧ OwnI wx w1.heap.size v (filN F q) ∧ Kp w1 wx) (fun _ sq _ => n - (intOf sq).toNat)
    case atStart => exact ⟨0, by omega, rfl, OwnI.nil _ _, Kp.refl _⟩
    case round =>
      obtain ⟨q, hqn, rfl, ho, kr⟩ := hrel
      have sr := keepe15 kr s1
      have HO := Lib.hid ho
      have hln := Lib.hid (filN_len F q)
      clear ho
      by_cases hlt : q < n
      · have hlt' : (q : Int) < n := by omega
        have CAq := Lib.hid (CA.out q hlt)
        have CBq := Lib.hid (CB.out q hlt)
        have hf := HF.out q
        cases hv0 : zonB l m lt lr ld W us (0) (q : Int)
        · rw [hv0] at CAq hf
          clear hv0
          have HS2 := Lib.hid (filN_no (f := F) (k := q) (by simp [hf]))
          clear hf
          go_wp2_with fail
          refine (CS.out _).mono ?_
          rintro e3 w3 ⟨rfl, k3⟩
          have s3 := keepe15 k3 sr
          have k30 := kr.trans k3
          have HO3 := Lib.hid (HO.out.keep k3)
          clear sr k3 kr HO
          go_wp2_with fail
          refine (CAq.out _ (HB.out.keep s3.2.2.2.2.2.2.2.2.2.2.2.2.2.2.2) (HS.out.keep s3.2.2.2.2.2.2.2.2.2.2.2.2.2.2.2)).mono ?_
          rintro e4 w4 ⟨rfl, k4⟩
          have s4 := keepe15 k4 s3
          have k40 := k30.trans k4
          have HO4 := Lib.hid (HO3.out.keep k4)
          clear s3 k4 k30 HO3
          go_wp2_with fail
          go_roundw
          case rel => exact ⟨q + 1, by omega, by go_num, by rw [HS2.out]; exact HO4.out, k40⟩
          case measure => simp [intOf]; omega
        · rw [hv0] at CAq hf
          clear hv0
          cases hv1 : zonB l m lt lr ld W us (1) (q : Int)
          · rw [hv1] at CBq hf
            clear hv1
            have HS2 := Lib.hid (filN_no (f := F) (k := q) (by simp [hf]))
            clear hf
            go_wp2_with fail
            refine (CS.out _).mono ?_
            rintro e3 w3 ⟨rfl, k3⟩
            have s3 := keepe15 k3 sr
            have k30 := kr.trans k3
            have HO3 := Lib.hid (HO.out.keep k3)
            clear sr k3 kr HO
            go_wp2_with fail
            refine (CAq.out _ (HB.out.keep s3.2.2.2.2.2.2.2.2.2.2.2.2.2.2.2) (HS.out.keep s3.2.2.2.2.2.2.2.2.2.2.2.2.2.2.2)).mono ?_
            rintro e4 w4 ⟨rfl, k4⟩
            have s4 := keepe15 k4 s3
            have k40 := k30.trans k4
            have HO4 := Lib.hid (HO3.out.keep k4)
            clear s3 k4 k30 HO3
            go_wp2_with fail
            refine (CBq.out _ (HB.out.keep s4.2.2.2.2.2.2.2.2.2.2.2.2.2.2.2) (HS.out.keep s4.2.2.2.2.2.2.2.2.2.2.2.2.2.2.2)).mono ?_
            rintro e5 w5 ⟨rfl, k5⟩
            have s5 := keepe15 k5 s4
            have k50 := k40.trans k5
            have HO5 := Lib.hid (HO4.out.keep k5)
            clear s4 k5 k40 HO4
            go_wp2_with fail
            go_roundw
            case rel => exact ⟨q + 1, by omega, by go_num, by rw [HS2.out]; exact HO5.out, k50⟩
            case measure => simp [intOf]; omega
          · rw [hv1] at CBq hf
            clear hv1
            have HS2 := Lib.hid (filN_yes (f := F) (k := q) (by simp [hf]))
            clear hf
            go_wp2_with fail
            refine (CS.out _).mono ?_
            rintro e3 w3 ⟨rfl, k3⟩
            have s3 := keepe15 k3 sr
            have k30 := kr.trans k3
            have HO3 := Lib.hid (HO.out.keep k3)
            clear sr k3 kr HO
            go_wp2_with fail
            refine (CAq.out _ (HB.out.keep s3.2.2.2.2.2.2.2.2.2.2.2.2.2.2.2) (HS.out.keep s3.2.2.2.2.2.2.2.2.2.2.2.2.2.2.2)).mono ?_
            rintro e4 w4 ⟨rfl, k4⟩
            have s4 := keepe15 k4 s3
            have k40 := k30.trans k4
            have HO4 := Lib.hid (HO3.out.keep k4)
            clear s3 k4 k30 HO3
            go_wp2_with fail
            refine (CBq.out _ (HB.out.keep s4.2.2.2.2.2.2.2.2.2.2.2.2.2.2.2) (HS.out.keep s4.2.2.2.2.2.2.2.2.2.2.2.2.2.2.2)).mono ?_
            rintro e5 w5 ⟨rfl, k5⟩
            have s5 := keepe15 k5 s4
            have k50 := k40.trans k5
            have HO5 := Lib.hid (HO4.out.keep k5)
            clear s4 k5 k40 HO4
            go_wp2_with (at_builtin; refine wpList_append_own_at _ rfl (.tmp 29) (.tmp 31) 26 rfl (w1.heap.size) 3 j0 (.int .i64 0) 1 8 Tryz.underlying26 hj0 hz0 hs0 hb0 rfl (by decide) _ (filN F q).length (cellsI (filN F q)) rfl (World.ownsRow.alloc HO5.out _) ⟨w5.heap.size, 0, none⟩ 1 1 [.int .i64 (q : Int)] rfl rfl (one_cell _ _ _) (by simp [Value.oneCell']) (by have := hln.out; simp only [maxLen]; omega) (by have := hln.out; omega) (by have h5 := k50.size; simp; omega) ?_; intro v' w3 hown2 hgrow2 hnil2 hat2; clear hnil2 hat2; have K5 : Kp w1 w3 := (k50.alloc _).grown hgrow2 (fun k e => by have := (World.ownsRow.lt HO5.out k e).1; omega); have O3 := Lib.hid (OwnI.snoc (x := (q : Int)) hown2); clear hown2 hgrow2)
            go_roundw
            case rel => exact ⟨q + 1, by omega, by go_num, by rw [HS2.out]; exact O3.out, K5⟩
            case measure => simp [intOf]; omega
      · obtain rfl : q = n := by omega
        go_wp2_with fail
        refine (CS.out _).mono ?_
        rintro e3 w3 ⟨rfl, k3⟩
        have HO3 := Lib.hid (HO.out.keep k3)
        have K9 := sr.2.2.2.2.2.2.2.2.2.2.2.2.2.2.2.trans k3
        have hz9 := s1.2.2.2.2.2.2.2.2.2.2.2.2.2.2.2.size
        clear HO k3 sr
        go_wp2_with fail
        go_ret2
        exact ⟨_, rfl, HO3.out.base hz9, K9⟩

end Go.Proofs.YtiojmbbdcccokaaGreatDoor
