/-
  Zones, of the program: a unit of a state, the zone of its enemy; InZone, ZoneHexes, ZoneSources, ContestedHexes, MustStop. Nothing that was there is changed. The named variables hold what the program's text lays.
-/
import Derived.Test.YtncmjpgknckhjaaGreatDoorZnS
import Derived.Test.YtncmjpgknckhjaaGreatDoorZnH
import Derived.Test.YtncmjpgknckhjaaGreatDoorQa
import Derived.Test.YtncmjpgknckhjaaGreatDoorQp
import Derived.Test.YtncmjpgknckhjaaGreatDoorQa
namespace Go.Proofs.YtncmjpgknckhjaaGreatDoor
open Go.RowKit

theorem keepy15 {W0 w w1 : World} {p0 p1 p2 p3 p4 p5 p6 p7 p8 p9 p10 p11 p12 p13 p14 : Addr} {v0 v1 v2 v3 v4 v5 v6 v7 v8 v9 v10 v11 v12 v13 v14 : Value} (k : Kp w w1) (h : w.cell? p0 = some v0 ∧ w.cell? p1 = some v1 ∧ w.cell? p2 = some v2 ∧ w.cell? p3 = some v3 ∧ w.cell? p4 = some v4 ∧ w.cell? p5 = some v5 ∧ w.cell? p6 = some v6 ∧ w.cell? p7 = some v7 ∧ w.cell? p8 = some v8 ∧ w.cell? p9 = some v9 ∧ w.cell? p10 = some v10 ∧ w.cell? p11 = some v11 ∧ w.cell? p12 = some v12 ∧ w.cell? p13 = some v13 ∧ w.cell? p14 = some v14 ∧ Kp W0 w) : w1.cell? p0 = some v0 ∧ w1.cell? p1 = some v1 ∧ w1.cell? p2 = some v2 ∧ w1.cell? p3 = some v3 ∧ w1.cell? p4 = some v4 ∧ w1.cell? p5 = some v5 ∧ w1.cell? p6 = some v6 ∧ w1.cell? p7 = some v7 ∧ w1.cell? p8 = some v8 ∧ w1.cell? p9 = some v9 ∧ w1.cell? p10 = some v10 ∧ w1.cell? p11 = some v11 ∧ w1.cell? p12 = some v12 ∧ w1.cell? p13 = some v13 ∧ w1.cell? p14 = some v14 ∧ Kp W0 w1 :=
  ⟨k.cell h.1, k.cell h.2.1, k.cell h.2.2.1, k.cell h.2.2.2.1, k.cell h.2.2.2.2.1, k.cell h.2.2.2.2.2.1, k.cell h.2.2.2.2.2.2.1, k.cell h.2.2.2.2.2.2.2.1, k.cell h.2.2.2.2.2.2.2.2.1, k.cell h.2.2.2.2.2.2.2.2.2.1, k.cell h.2.2.2.2.2.2.2.2.2.2.1, k.cell h.2.2.2.2.2.2.2.2.2.2.2.1, k.cell h.2.2.2.2.2.2.2.2.2.2.2.2.1, k.cell h.2.2.2.2.2.2.2.2.2.2.2.2.2.1, k.cell h.2.2.2.2.2.2.2.2.2.2.2.2.2.2.1, h.2.2.2.2.2.2.2.2.2.2.2.2.2.2.2.trans k⟩
theorem drewy15 {W0 w : World} {p0 p1 p2 p3 p4 p5 p6 p7 p8 p9 p10 p11 p12 p13 p14 : Addr} {v0 v1 v2 v3 v4 v5 v6 v7 v8 v9 v10 v11 v12 v13 v14 : Value} (h : w.cell? p0 = some v0 ∧ w.cell? p1 = some v1 ∧ w.cell? p2 = some v2 ∧ w.cell? p3 = some v3 ∧ w.cell? p4 = some v4 ∧ w.cell? p5 = some v5 ∧ w.cell? p6 = some v6 ∧ w.cell? p7 = some v7 ∧ w.cell? p8 = some v8 ∧ w.cell? p9 = some v9 ∧ w.cell? p10 = some v10 ∧ w.cell? p11 = some v11 ∧ w.cell? p12 = some v12 ∧ w.cell? p13 = some v13 ∧ w.cell? p14 = some v14 ∧ Kp W0 w) : w.drew.cell? p0 = some v0 ∧ w.drew.cell? p1 = some v1 ∧ w.drew.cell? p2 = some v2 ∧ w.drew.cell? p3 = some v3 ∧ w.drew.cell? p4 = some v4 ∧ w.drew.cell? p5 = some v5 ∧ w.drew.cell? p6 = some v6 ∧ w.drew.cell? p7 = some v7 ∧ w.drew.cell? p8 = some v8 ∧ w.drew.cell? p9 = some v9 ∧ w.drew.cell? p10 = some v10 ∧ w.drew.cell? p11 = some v11 ∧ w.drew.cell? p12 = some v12 ∧ w.drew.cell? p13 = some v13 ∧ w.drew.cell? p14 = some v14 ∧ Kp W0 w.drew :=
  ⟨h.1, h.2.1, h.2.2.1, h.2.2.2.1, h.2.2.2.2.1, h.2.2.2.2.2.1, h.2.2.2.2.2.2.1, h.2.2.2.2.2.2.2.1, h.2.2.2.2.2.2.2.2.1, h.2.2.2.2.2.2.2.2.2.1, h.2.2.2.2.2.2.2.2.2.2.1, h.2.2.2.2.2.2.2.2.2.2.2.1, h.2.2.2.2.2.2.2.2.2.2.2.2.1, h.2.2.2.2.2.2.2.2.2.2.2.2.2.1, h.2.2.2.2.2.2.2.2.2.2.2.2.2.2.1, h.2.2.2.2.2.2.2.2.2.2.2.2.2.2.2.drew⟩
theorem keepy17 {W0 w w1 : World} {p0 p1 p2 p3 p4 p5 p6 p7 p8 p9 p10 p11 p12 p13 p14 p15 p16 : Addr} {v0 v1 v2 v3 v4 v5 v6 v7 v8 v9 v10 v11 v12 v13 v14 v15 v16 : Value} (k : Kp w w1) (h : w.cell? p0 = some v0 ∧ w.cell? p1 = some v1 ∧ w.cell? p2 = some v2 ∧ w.cell? p3 = some v3 ∧ w.cell? p4 = some v4 ∧ w.cell? p5 = some v5 ∧ w.cell? p6 = some v6 ∧ w.cell? p7 = some v7 ∧ w.cell? p8 = some v8 ∧ w.cell? p9 = some v9 ∧ w.cell? p10 = some v10 ∧ w.cell? p11 = some v11 ∧ w.cell? p12 = some v12 ∧ w.cell? p13 = some v13 ∧ w.cell? p14 = some v14 ∧ w.cell? p15 = some v15 ∧ w.cell? p16 = some v16 ∧ Kp W0 w) : w1.cell? p0 = some v0 ∧ w1.cell? p1 = some v1 ∧ w1.cell? p2 = some v2 ∧ w1.cell? p3 = some v3 ∧ w1.cell? p4 = some v4 ∧ w1.cell? p5 = some v5 ∧ w1.cell? p6 = some v6 ∧ w1.cell? p7 = some v7 ∧ w1.cell? p8 = some v8 ∧ w1.cell? p9 = some v9 ∧ w1.cell? p10 = some v10 ∧ w1.cell? p11 = some v11 ∧ w1.cell? p12 = some v12 ∧ w1.cell? p13 = some v13 ∧ w1.cell? p14 = some v14 ∧ w1.cell? p15 = some v15 ∧ w1.cell? p16 = some v16 ∧ Kp W0 w1 :=
  ⟨k.cell h.1, k.cell h.2.1, k.cell h.2.2.1, k.cell h.2.2.2.1, k.cell h.2.2.2.2.1, k.cell h.2.2.2.2.2.1, k.cell h.2.2.2.2.2.2.1, k.cell h.2.2.2.2.2.2.2.1, k.cell h.2.2.2.2.2.2.2.2.1, k.cell h.2.2.2.2.2.2.2.2.2.1, k.cell h.2.2.2.2.2.2.2.2.2.2.1, k.cell h.2.2.2.2.2.2.2.2.2.2.2.1, k.cell h.2.2.2.2.2.2.2.2.2.2.2.2.1, k.cell h.2.2.2.2.2.2.2.2.2.2.2.2.2.1, k.cell h.2.2.2.2.2.2.2.2.2.2.2.2.2.2.1, k.cell h.2.2.2.2.2.2.2.2.2.2.2.2.2.2.2.1, k.cell h.2.2.2.2.2.2.2.2.2.2.2.2.2.2.2.2.1, h.2.2.2.2.2.2.2.2.2.2.2.2.2.2.2.2.2.trans k⟩
theorem drewy17 {W0 w : World} {p0 p1 p2 p3 p4 p5 p6 p7 p8 p9 p10 p11 p12 p13 p14 p15 p16 : Addr} {v0 v1 v2 v3 v4 v5 v6 v7 v8 v9 v10 v11 v12 v13 v14 v15 v16 : Value} (h : w.cell? p0 = some v0 ∧ w.cell? p1 = some v1 ∧ w.cell? p2 = some v2 ∧ w.cell? p3 = some v3 ∧ w.cell? p4 = some v4 ∧ w.cell? p5 = some v5 ∧ w.cell? p6 = some v6 ∧ w.cell? p7 = some v7 ∧ w.cell? p8 = some v8 ∧ w.cell? p9 = some v9 ∧ w.cell? p10 = some v10 ∧ w.cell? p11 = some v11 ∧ w.cell? p12 = some v12 ∧ w.cell? p13 = some v13 ∧ w.cell? p14 = some v14 ∧ w.cell? p15 = some v15 ∧ w.cell? p16 = some v16 ∧ Kp W0 w) : w.drew.cell? p0 = some v0 ∧ w.drew.cell? p1 = some v1 ∧ w.drew.cell? p2 = some v2 ∧ w.drew.cell? p3 = some v3 ∧ w.drew.cell? p4 = some v4 ∧ w.drew.cell? p5 = some v5 ∧ w.drew.cell? p6 = some v6 ∧ w.drew.cell? p7 = some v7 ∧ w.drew.cell? p8 = some v8 ∧ w.drew.cell? p9 = some v9 ∧ w.drew.cell? p10 = some v10 ∧ w.drew.cell? p11 = some v11 ∧ w.drew.cell? p12 = some v12 ∧ w.drew.cell? p13 = some v13 ∧ w.drew.cell? p14 = some v14 ∧ w.drew.cell? p15 = some v15 ∧ w.drew.cell? p16 = some v16 ∧ Kp W0 w.drew :=
  ⟨h.1, h.2.1, h.2.2.1, h.2.2.2.1, h.2.2.2.2.1, h.2.2.2.2.2.1, h.2.2.2.2.2.2.1, h.2.2.2.2.2.2.2.1, h.2.2.2.2.2.2.2.2.1, h.2.2.2.2.2.2.2.2.2.1, h.2.2.2.2.2.2.2.2.2.2.1, h.2.2.2.2.2.2.2.2.2.2.2.1, h.2.2.2.2.2.2.2.2.2.2.2.2.1, h.2.2.2.2.2.2.2.2.2.2.2.2.2.1, h.2.2.2.2.2.2.2.2.2.2.2.2.2.2.1, h.2.2.2.2.2.2.2.2.2.2.2.2.2.2.2.1, h.2.2.2.2.2.2.2.2.2.2.2.2.2.2.2.2.1, h.2.2.2.2.2.2.2.2.2.2.2.2.2.2.2.2.2.drew⟩

set_option maxRecDepth 100000 in
set_option maxHeartbeats 4000000 in
theorem isUnitNumber_any (T Z : Int) (u : Value) (us : List Uni) (un : Int) (w : World) (hS : StaAt w u us) :
    Calls Tryz.prog 119 #[sv T Z u, .int .i64 un] w fun e' w' => e' = .returned (.bool (inB un us.length)) ∧ Kp w w' := by
  obtain ⟨A, cp, rfl, _⟩ := hS.rd
  have hb := hS.b
  generalize us.length = N at hb ⊢
  clear hS
  by_cases h1 : 0 ≤ un
  · by_cases h2 : un < N
    · go_enter Tryz.func119, Tryz.ntmps119
      go_wp2_with fail
      go_ret
      exact ⟨ret_bool (by simp [inB, h1, h2]), (Kp.refl w).alloc _⟩
    · have d2 : decide (un < (N : Int)) = false := by simpa using h2
      go_enter Tryz.func119, Tryz.ntmps119
      go_wp2_with fail
      go_ret
      exact ⟨ret_bool (by simp [inB]; omega), (Kp.refl w).alloc _⟩
  · have d1 : decide (0 ≤ un) = false := by simpa using h1
    go_enter Tryz.func119, Tryz.ntmps119
    go_wp2_with fail
    go_ret
    exact ⟨ret_bool (by simp [inB]; omega), (Kp.refl w).alloc _⟩

set_option maxRecDepth 100000 in
set_option maxHeartbeats 4000000 in
theorem isUnitOn_any (At Ak : Option Addr) (nt nk ct ck : Nat) (l : List Ter) (m : List Knd) (a b c d e W H : Int) (x r y : Value) (lt lr ld : List Int) (T Z : Int) (u : Value) (us : List Uni) (un : Int) (w : World) (hs : Spans w) (ht : Tab w) (hu : SpU w) (hB : BrdAt w At Ak nt nk l m x r y lt lr ld) (hS : StaAt w u us) :
    Calls Tryz.prog 82 #[bv (.slice At nt ct) (.slice Ak nk ck) a b c d e W H x r y, sv T Z u, .int .i64 un] w fun e' w' => e' = .returned (.bool ((brdOk ⟨l, m, a, b, c, d, e⟩ W H lt lr ld && staOk ⟨l, m, a, b, c, d, e⟩ W H lt T Z us) && inB un us.length)) ∧ Kp w w' := by
  have KA : Kp w ((w.alloc (.cells #[.slice At nt ct, .slice Ak nk ck, .int .i64 a, .int .i64 b, .int .i64 c, .int .i64 d, .int .i64 e, .int .i64 W, .int .i64 H, x, r, y] 44)).alloc (.cells #[.int .i64 T, .int .i64 Z, u] 48)) := ((Kp.refl w).alloc _).alloc _
  have s0 : cb12 ((w.alloc (.cells #[.slice At nt ct, .slice Ak nk ck, .int .i64 a, .int .i64 b, .int .i64 c, .int .i64 d, .int .i64 e, .int .i64 W, .int .i64 H, x, r, y] 44)).alloc (.cells #[.int .i64 T, .int .i64 Z, u] 48)) (w.heap.size) (.slice At nt ct) (.slice Ak nk ck) (.int .i64 a) (.int .i64 b) (.int .i64 c) (.int .i64 d) (.int .i64 e) (.int .i64 W) (.int .i64 H) (x) (r) (y) (cb3 ((w.alloc (.cells #[.slice At nt ct, .slice Ak nk ck, .int .i64 a, .int .i64 b, .int .i64 c, .int .i64 d, .int .i64 e, .int .i64 W, .int .i64 H, x, r, y] 44)).alloc (.cells #[.int .i64 T, .int .i64 Z, u] 48)) (w.heap.size + 1) (.int .i64 T) (.int .i64 Z) (u) (Kp w ((w.alloc (.cells #[.slice At nt ct, .slice Ak nk ck, .int .i64 a, .int .i64 b, .int .i64 c, .int .i64 d, .int .i64 e, .int .i64 W, .int .i64 H, x, r, y] 44)).alloc (.cells #[.int .i64 T, .int .i64 Z, u] 48)))) := ⟨by simp [go_sem], by simp [go_sem], by simp [go_sem], by simp [go_sem], by simp [go_sem], by simp [go_sem], by simp [go_sem], by simp [go_sem], by simp [go_sem], by simp [go_sem], by simp [go_sem], by simp [go_sem], by simp [go_sem], by simp [go_sem], by simp [go_sem], KA⟩
  have HSP := Lib.hid hs
  have HT := Lib.hid ht
  have HU := Lib.hid hu
  have HB := Lib.hid hB
  have HS := Lib.hid hS
  have C0 := Lib.hid (fun (w : World) hs ht hu hB hS => isStateOn_any At Ak nt nk ct ck l m a b c d e W H x r y lt lr ld T Z u us w hs ht hu hB hS)
  have C1 := Lib.hid (fun (w : World) hS => isUnitNumber_any T Z u us un w hS)
  clear hs ht hu hB hS
  generalize inB un us.length = G at C1 ⊢
  cases hg : brdOk ⟨l, m, a, b, c, d, e⟩ W H lt lr ld && staOk ⟨l, m, a, b, c, d, e⟩ W H lt T Z us
  · rw [hg] at C0
    rw [Bool.false_and]
    clear hg C1
    go_enter Tryz.func82, Tryz.ntmps82
    go_wp2_with fail
    refine (C0.out _ (HSP.out.keep KA) (HT.out.keep KA) (HU.out.keep KA) (HB.out.keep KA) (HS.out.keep KA)).mono ?_
    rintro e1 w1 ⟨rfl, k1⟩
    go_wp2_with fail
    go_ret
    exact ⟨rfl, KA.trans k1⟩
  · rw [hg] at C0
    rw [Bool.true_and]
    clear hg
    go_enter Tryz.func82, Tryz.ntmps82
    go_wp2_with fail
    refine (C0.out _ (HSP.out.keep KA) (HT.out.keep KA) (HU.out.keep KA) (HB.out.keep KA) (HS.out.keep KA)).mono ?_
    rintro e1 w1 ⟨rfl, k1⟩
    have s1 := keepy15 k1 s0
    clear s0 k1
    go_wp2_with fail
    refine (C1.out _ (HS.out.keep s1.2.2.2.2.2.2.2.2.2.2.2.2.2.2.2)).mono ?_
    rintro e2 w2 ⟨rfl, k2⟩
    go_wp2_with fail
    go_ret
    exact ⟨ret_bool (by simp), s1.2.2.2.2.2.2.2.2.2.2.2.2.2.2.2.trans k2⟩

set_option maxRecDepth 100000 in
set_option maxHeartbeats 4000000 in
theorem inZoneP_any (At Ak : Option Addr) (nt nk ct ck : Nat) (l : List Ter) (m : List Knd) (a b c d e W H : Int) (x r y : Value) (lt lr ld : List Int) (T Z : Int) (u : Value) (us : List Uni) (sd i : Int) (w : World) (hs : Spans w) (ht : Tab w) (hu : SpU w) (hB : BrdAt w At Ak nt nk l m x r y lt lr ld) (hS : StaAt w u us) :
    Calls Tryz.prog 31 #[bv (.slice At nt ct) (.slice Ak nk ck) a b c d e W H x r y, sv T Z u, .int .i64 sd, .int .i64 i] w fun e' w' => e' = .returned (.tuple #[.bool ((((brdOk ⟨l, m, a, b, c, d, e⟩ W H lt lr ld && staOk ⟨l, m, a, b, c, d, e⟩ W H lt T Z us) && onI W H i) && spB 0 1 sd) && zonB l m lt lr ld W us sd i), .bool (((brdOk ⟨l, m, a, b, c, d, e⟩ W H lt lr ld && staOk ⟨l, m, a, b, c, d, e⟩ W H lt T Z us) && onI W H i) && spB 0 1 sd)]) ∧ Kp w w' := by
  have KA : Kp w ((w.alloc (.cells #[.slice At nt ct, .slice Ak nk ck, .int .i64 a, .int .i64 b, .int .i64 c, .int .i64 d, .int .i64 e, .int .i64 W, .int .i64 H, x, r, y] 44)).alloc (.cells #[.int .i64 T, .int .i64 Z, u] 48)) := ((Kp.refl w).alloc _).alloc _
  have s0 : cb12 ((w.alloc (.cells #[.slice At nt ct, .slice Ak nk ck, .int .i64 a, .int .i64 b, .int .i64 c, .int .i64 d, .int .i64 e, .int .i64 W, .int .i64 H, x, r, y] 44)).alloc (.cells #[.int .i64 T, .int .i64 Z, u] 48)) (w.heap.size) (.slice At nt ct) (.slice Ak nk ck) (.int .i64 a) (.int .i64 b) (.int .i64 c) (.int .i64 d) (.int .i64 e) (.int .i64 W) (.int .i64 H) (x) (r) (y) (cb3 ((w.alloc (.cells #[.slice At nt ct, .slice Ak nk ck, .int .i64 a, .int .i64 b, .int .i64 c, .int .i64 d, .int .i64 e, .int .i64 W, .int .i64 H, x, r, y] 44)).alloc (.cells #[.int .i64 T, .int .i64 Z, u] 48)) (w.heap.size + 1) (.int .i64 T) (.int .i64 Z) (u) (cb2 ((w.alloc (.cells #[.slice At nt ct, .slice Ak nk ck, .int .i64 a, .int .i64 b, .int .i64 c, .int .i64 d, .int .i64 e, .int .i64 W, .int .i64 H, x, r, y] 44)).alloc (.cells #[.int .i64 T, .int .i64 Z, u] 48)) 0 (.int .i64 0) (.int .i64 1) (Kp w ((w.alloc (.cells #[.slice At nt ct, .slice Ak nk ck, .int .i64 a, .int .i64 b, .int .i64 c, .int .i64 d, .int .i64 e, .int .i64 W, .int .i64 H, x, r, y] 44)).alloc (.cells #[.int .i64 T, .int .i64 Z, u] 48))))) := ⟨by simp [go_sem], by simp [go_sem], by simp [go_sem], by simp [go_sem], by simp [go_sem], by simp [go_sem], by simp [go_sem], by simp [go_sem], by simp [go_sem], by simp [go_sem], by simp [go_sem], by simp [go_sem], by simp [go_sem], by simp [go_sem], by simp [go_sem], KA.cell hu.side.1, KA.cell hu.side.2, KA⟩
  have HSP := Lib.hid hs
  have HT := Lib.hid ht
  have HU := Lib.hid hu
  have HB := Lib.hid hB
  have HS := Lib.hid hS
  clear hs ht hu hB hS
  have C0 := Lib.hid (fun (w : World) hs ht hu hB hS => isStateOn_any At Ak nt nk ct ck l m a b c d e W H x r y lt lr ld T Z u us w hs ht hu hB hS)
  cases hg0 : brdOk ⟨l, m, a, b, c, d, e⟩ W H lt lr ld && staOk ⟨l, m, a, b, c, d, e⟩ W H lt T Z us
  · rw [hg0] at C0
    clear hg0
    repeat (first | rw [Bool.true_and] | rw [Bool.and_true] | rw [Bool.false_and] | rw [Bool.and_false])
    go_enter Tryz.func31, Tryz.ntmps31
    go_wp2_with fail
    refine (C0.out _ (HSP.out.keep s0.2.2.2.2.2.2.2.2.2.2.2.2.2.2.2.2.2) (HT.out.keep s0.2.2.2.2.2.2.2.2.2.2.2.2.2.2.2.2.2) (HU.out.keep s0.2.2.2.2.2.2.2.2.2.2.2.2.2.2.2.2.2) (HB.out.keep s0.2.2.2.2.2.2.2.2.2.2.2.2.2.2.2.2.2) (HS.out.keep s0.2.2.2.2.2.2.2.2.2.2.2.2.2.2.2.2.2)).mono ?_
    rintro e1 w1 ⟨rfl, k1⟩
    have s1 := keepy17 k1 s0
    clear s0 k1
    go_wp2_with fail
    go_ret2
    exact ⟨rfl, s1.2.2.2.2.2.2.2.2.2.2.2.2.2.2.2.2.2⟩
  · rw [hg0] at C0
    have hok : brdOk ⟨l, m, a, b, c, d, e⟩ W H lt lr ld = true := by
      simp only [Bool.and_eq_true] at hg0
      exact hg0.1
    have hst : staOk ⟨l, m, a, b, c, d, e⟩ W H lt T Z us = true := by
      simp only [Bool.and_eq_true] at hg0
      exact hg0.2
    obtain ⟨p1, p2, p3, p4⟩ := mapOk_side (brdOk_map hok)
    have hlen := mapOk_len (brdOk_map hok)
    have CH : Hid (∀ w, Calls Tryz.prog 70 #[.agg #[.int .i64 0, .int .i64 1], .int .i64 sd] w fun e' w' => e' = .returned (.bool (spB 0 1 sd)) ∧ Kp w w') := Lib.hid fun w => has_any 0 1 sd w
    cases hg1 : spB 0 1 sd
    · rw [hg1] at CH
      clear hg1 hok hst p1 p2 p3 p4 hlen hg0
      repeat (first | rw [Bool.true_and] | rw [Bool.and_true] | rw [Bool.false_and] | rw [Bool.and_false])
      go_enter Tryz.func31, Tryz.ntmps31
      go_wp2_with fail
      refine (C0.out _ (HSP.out.keep s0.2.2.2.2.2.2.2.2.2.2.2.2.2.2.2.2.2) (HT.out.keep s0.2.2.2.2.2.2.2.2.2.2.2.2.2.2.2.2.2) (HU.out.keep s0.2.2.2.2.2.2.2.2.2.2.2.2.2.2.2.2.2) (HB.out.keep s0.2.2.2.2.2.2.2.2.2.2.2.2.2.2.2.2.2) (HS.out.keep s0.2.2.2.2.2.2.2.2.2.2.2.2.2.2.2.2.2)).mono ?_
      rintro e1 w1 ⟨rfl, k1⟩
      have s1 := keepy17 k1 s0
      clear s0 k1
      go_wp2_with fail
      refine (CH.out _).mono ?_
      rintro e2 w2 ⟨rfl, k2⟩
      have s2 := keepy17 k2 s1
      clear s1 k2
      go_wp2_with fail
      go_ret2
      exact ⟨rfl, s2.2.2.2.2.2.2.2.2.2.2.2.2.2.2.2.2.2⟩
    · rw [hg1] at CH
      have CIX : Hid (∀ w, Calls Tryz.prog 58 #[mp W H x r y, .int .i64 i] w fun e' w' => e' = .returned (.bool (onI W H i)) ∧ Kp w w') := Lib.hid fun w => isIndex_any W H x r y i w p1 p2 p3 p4
      cases hg2 : onI W H i
      · rw [hg2] at CIX
        clear hg2 hok hst p1 p2 p3 p4 hlen hg0 hg1
        repeat (first | rw [Bool.true_and] | rw [Bool.and_true] | rw [Bool.false_and] | rw [Bool.and_false])
        go_enter Tryz.func31, Tryz.ntmps31
        go_wp2_with fail
        refine (C0.out _ (HSP.out.keep s0.2.2.2.2.2.2.2.2.2.2.2.2.2.2.2.2.2) (HT.out.keep s0.2.2.2.2.2.2.2.2.2.2.2.2.2.2.2.2.2) (HU.out.keep s0.2.2.2.2.2.2.2.2.2.2.2.2.2.2.2.2.2) (HB.out.keep s0.2.2.2.2.2.2.2.2.2.2.2.2.2.2.2.2.2) (HS.out.keep s0.2.2.2.2.2.2.2.2.2.2.2.2.2.2.2.2.2)).mono ?_
        rintro e1 w1 ⟨rfl, k1⟩
        have s1 := keepy17 k1 s0
        clear s0 k1
        go_wp2_with fail
        refine (CH.out _).mono ?_
        rintro e2 w2 ⟨rfl, k2⟩
        have s2 := keepy17 k2 s1
        clear s1 k2
        go_wp2_with fail
        refine (CIX.out _).mono ?_
        rintro e3 w3 ⟨rfl, k3⟩
        have s3 := keepy17 k3 s2
        clear s2 k3
        go_wp2_with fail
        go_ret2
        exact ⟨rfl, s3.2.2.2.2.2.2.2.2.2.2.2.2.2.2.2.2.2⟩
      · rw [hg2] at CIX
        have CZ := Lib.hid (fun (w : World) ht hB hS => has_zone At Ak nt nk ct ck l m a b c d e W H x r y lt lr ld T Z u us (sd) (i) w ht hB hS hok hst hg2)
        generalize zonB l m lt lr ld W us sd i = R at CZ ⊢
        clear hok hst p1 p2 p3 p4 hlen hg0 hg1 hg2
        repeat (first | rw [Bool.true_and] | rw [Bool.and_true] | rw [Bool.false_and] | rw [Bool.and_false])
        go_enter Tryz.func31, Tryz.ntmps31
        go_wp2_with fail
        refine (C0.out _ (HSP.out.keep s0.2.2.2.2.2.2.2.2.2.2.2.2.2.2.2.2.2) (HT.out.keep s0.2.2.2.2.2.2.2.2.2.2.2.2.2.2.2.2.2) (HU.out.keep s0.2.2.2.2.2.2.2.2.2.2.2.2.2.2.2.2.2) (HB.out.keep s0.2.2.2.2.2.2.2.2.2.2.2.2.2.2.2.2.2) (HS.out.keep s0.2.2.2.2.2.2.2.2.2.2.2.2.2.2.2.2.2)).mono ?_
        rintro e1 w1 ⟨rfl, k1⟩
        have s1 := keepy17 k1 s0
        clear s0 k1
        go_wp2_with fail
        refine (CH.out _).mono ?_
        rintro e2 w2 ⟨rfl, k2⟩
        have s2 := keepy17 k2 s1
        clear s1 k2
        go_wp2_with fail
        refine (CIX.out _).mono ?_
        rintro e3 w3 ⟨rfl, k3⟩
        have s3 := keepy17 k3 s2
        clear s2 k3
        go_wp2_with fail
        refine (CZ.out _ (HT.out.keep s3.2.2.2.2.2.2.2.2.2.2.2.2.2.2.2.2.2) (HB.out.keep s3.2.2.2.2.2.2.2.2.2.2.2.2.2.2.2.2.2) (HS.out.keep s3.2.2.2.2.2.2.2.2.2.2.2.2.2.2.2.2.2)).mono ?_
        rintro e9 w9 ⟨rfl, k9⟩
        go_wp2_with fail
        go_ret2
        exact ⟨rfl, s3.2.2.2.2.2.2.2.2.2.2.2.2.2.2.2.2.2.trans k9⟩

set_option maxRecDepth 100000 in
set_option maxHeartbeats 4000000 in
theorem zoneHexesP_any (At Ak : Option Addr) (nt nk ct ck : Nat) (l : List Ter) (m : List Knd) (a b c d e W H : Int) (x r y : Value) (lt lr ld : List Int) (T Z : Int) (u : Value) (us : List Uni) (sd : Int) (w : World) (hs : Spans w) (ht : Tab w) (hu : SpU w) (hB : BrdAt w At Ak nt nk l m x r y lt lr ld) (hS : StaAt w u us) :
    Calls Tryz.prog 33 #[bv (.slice At nt ct) (.slice Ak nk ck) a b c d e W H x r y, sv T Z u, .int .i64 sd] w (ListPostI ((brdOk ⟨l, m, a, b, c, d, e⟩ W H lt lr ld && staOk ⟨l, m, a, b, c, d, e⟩ W H lt T Z us) && spB 0 1 sd) (zonL l m lt lr ld W us sd) w) := by
  have KA : Kp w ((w.alloc (.cells #[.slice At nt ct, .slice Ak nk ck, .int .i64 a, .int .i64 b, .int .i64 c, .int .i64 d, .int .i64 e, .int .i64 W, .int .i64 H, x, r, y] 44)).alloc (.cells #[.int .i64 T, .int .i64 Z, u] 48)) := ((Kp.refl w).alloc _).alloc _
  have s0 : cb12 ((w.alloc (.cells #[.slice At nt ct, .slice Ak nk ck, .int .i64 a, .int .i64 b, .int .i64 c, .int .i64 d, .int .i64 e, .int .i64 W, .int .i64 H, x, r, y] 44)).alloc (.cells #[.int .i64 T, .int .i64 Z, u] 48)) (w.heap.size) (.slice At nt ct) (.slice Ak nk ck) (.int .i64 a) (.int .i64 b) (.int .i64 c) (.int .i64 d) (.int .i64 e) (.int .i64 W) (.int .i64 H) (x) (r) (y) (cb3 ((w.alloc (.cells #[.slice At nt ct, .slice Ak nk ck, .int .i64 a, .int .i64 b, .int .i64 c, .int .i64 d, .int .i64 e, .int .i64 W, .int .i64 H, x, r, y] 44)).alloc (.cells #[.int .i64 T, .int .i64 Z, u] 48)) (w.heap.size + 1) (.int .i64 T) (.int .i64 Z) (u) (cb2 ((w.alloc (.cells #[.slice At nt ct, .slice Ak nk ck, .int .i64 a, .int .i64 b, .int .i64 c, .int .i64 d, .int .i64 e, .int .i64 W, .int .i64 H, x, r, y] 44)).alloc (.cells #[.int .i64 T, .int .i64 Z, u] 48)) 0 (.int .i64 0) (.int .i64 1) (Kp w ((w.alloc (.cells #[.slice At nt ct, .slice Ak nk ck, .int .i64 a, .int .i64 b, .int .i64 c, .int .i64 d, .int .i64 e, .int .i64 W, .int .i64 H, x, r, y] 44)).alloc (.cells #[.int .i64 T, .int .i64 Z, u] 48))))) := ⟨by simp [go_sem], by simp [go_sem], by simp [go_sem], by simp [go_sem], by simp [go_sem], by simp [go_sem], by simp [go_sem], by simp [go_sem], by simp [go_sem], by simp [go_sem], by simp [go_sem], by simp [go_sem], by simp [go_sem], by simp [go_sem], by simp [go_sem], KA.cell hu.side.1, KA.cell hu.side.2, KA⟩
  have HSP := Lib.hid hs
  have HT := Lib.hid ht
  have HU := Lib.hid hu
  have HB := Lib.hid hB
  have HS := Lib.hid hS
  clear hs ht hu hB hS
  have C0 := Lib.hid (fun (w : World) hs ht hu hB hS => isStateOn_any At Ak nt nk ct ck l m a b c d e W H x r y lt lr ld T Z u us w hs ht hu hB hS)
  cases hg0 : brdOk ⟨l, m, a, b, c, d, e⟩ W H lt lr ld && staOk ⟨l, m, a, b, c, d, e⟩ W H lt T Z us
  · rw [hg0] at C0
    clear hg0
    repeat (first | rw [Bool.true_and] | rw [Bool.and_true] | rw [Bool.false_and] | rw [Bool.and_false])
    go_enter Tryz.func33, Tryz.ntmps33
    go_wp2_with fail
    refine (C0.out _ (HSP.out.keep s0.2.2.2.2.2.2.2.2.2.2.2.2.2.2.2.2.2) (HT.out.keep s0.2.2.2.2.2.2.2.2.2.2.2.2.2.2.2.2.2) (HU.out.keep s0.2.2.2.2.2.2.2.2.2.2.2.2.2.2.2.2.2) (HB.out.keep s0.2.2.2.2.2.2.2.2.2.2.2.2.2.2.2.2.2) (HS.out.keep s0.2.2.2.2.2.2.2.2.2.2.2.2.2.2.2.2.2)).mono ?_
    rintro e1 w1 ⟨rfl, k1⟩
    have s1 := keepy17 k1 s0
    clear s0 k1
    go_wp2_with fail
    go_ret2
    exact ListPostI.no (s1.2.2.2.2.2.2.2.2.2.2.2.2.2.2.2.2.2)
  · rw [hg0] at C0
    have hok : brdOk ⟨l, m, a, b, c, d, e⟩ W H lt lr ld = true := by
      simp only [Bool.and_eq_true] at hg0
      exact hg0.1
    have hst : staOk ⟨l, m, a, b, c, d, e⟩ W H lt T Z us = true := by
      simp only [Bool.and_eq_true] at hg0
      exact hg0.2
    obtain ⟨p1, p2, p3, p4⟩ := mapOk_side (brdOk_map hok)
    have hlen := mapOk_len (brdOk_map hok)
    have CH : Hid (∀ w, Calls Tryz.prog 70 #[.agg #[.int .i64 0, .int .i64 1], .int .i64 sd] w fun e' w' => e' = .returned (.bool (spB 0 1 sd)) ∧ Kp w w') := Lib.hid fun w => has_any 0 1 sd w
    cases hg1 : spB 0 1 sd
    · rw [hg1] at CH
      clear hg1 hok hst p1 p2 p3 p4 hlen hg0
      repeat (first | rw [Bool.true_and] | rw [Bool.and_true] | rw [Bool.false_and] | rw [Bool.and_false])
      go_enter Tryz.func33, Tryz.ntmps33
      go_wp2_with fail
      refine (C0.out _ (HSP.out.keep s0.2.2.2.2.2.2.2.2.2.2.2.2.2.2.2.2.2) (HT.out.keep s0.2.2.2.2.2.2.2.2.2.2.2.2.2.2.2.2.2) (HU.out.keep s0.2.2.2.2.2.2.2.2.2.2.2.2.2.2.2.2.2) (HB.out.keep s0.2.2.2.2.2.2.2.2.2.2.2.2.2.2.2.2.2) (HS.out.keep s0.2.2.2.2.2.2.2.2.2.2.2.2.2.2.2.2.2)).mono ?_
      rintro e1 w1 ⟨rfl, k1⟩
      have s1 := keepy17 k1 s0
      clear s0 k1
      go_wp2_with fail
      refine (CH.out _).mono ?_
      rintro e2 w2 ⟨rfl, k2⟩
      have s2 := keepy17 k2 s1
      clear s1 k2
      go_wp2_with fail
      go_ret2
      exact ListPostI.no (s2.2.2.2.2.2.2.2.2.2.2.2.2.2.2.2.2.2)
    · rw [hg1] at CH
      have HZ : Hid (∀ j : Nat, j < lt.length → ∀ w, Tab w → BrdAt w At Ak nt nk l m x r y lt lr ld → StaAt w u us → Calls Tryz.prog 74 #[.agg #[.slice At nt ct, .slice Ak nk ck, .int .i64 a, .int .i64 b, .int .i64 c, .int .i64 d, .int .i64 e, .int .i64 W, .int .i64 H, x, r, y, .int .i64 T, .int .i64 Z, u, .int .i64 sd], .int .i64 (j : Int)] w fun e' w' => e' = .returned (.bool (zonB l m lt lr ld W us sd j)) ∧ Kp w w') := Lib.hid fun j hj w ht hB hS => has_zone At Ak nt nk ct ck l m a b c d e W H x r y lt lr ld T Z u us sd j w ht hB hS hok hst (onI_mk (by omega) (by omega))
      have CW := Lib.hid (fun (w : World) hP => hexesWhere_Z (.agg #[.slice At nt ct, .slice Ak nk ck, .int .i64 a, .int .i64 b, .int .i64 c, .int .i64 d, .int .i64 e, .int .i64 W, .int .i64 H, x, r, y, .int .i64 T, .int .i64 Z, u, .int .i64 sd]) W H x r y (fun j => zonB l m lt lr ld W us sd j) lt.length w w p1 p2 p3 p4 hlen hP (Kp.refl w))
      have HL : Hid (zonL l m lt lr ld W us sd = filN (fun j => zonB l m lt lr ld W us sd j) lt.length) := Lib.hid rfl
      rw [HL.out]
      clear hok hst p1 p2 p3 p4 hlen hg0 hg1 HL
      repeat (first | rw [Bool.true_and] | rw [Bool.and_true] | rw [Bool.false_and] | rw [Bool.and_false])
      go_enter Tryz.func33, Tryz.ntmps33
      go_wp2_with fail
      refine (C0.out _ (HSP.out.keep s0.2.2.2.2.2.2.2.2.2.2.2.2.2.2.2.2.2) (HT.out.keep s0.2.2.2.2.2.2.2.2.2.2.2.2.2.2.2.2.2) (HU.out.keep s0.2.2.2.2.2.2.2.2.2.2.2.2.2.2.2.2.2) (HB.out.keep s0.2.2.2.2.2.2.2.2.2.2.2.2.2.2.2.2.2) (HS.out.keep s0.2.2.2.2.2.2.2.2.2.2.2.2.2.2.2.2.2)).mono ?_
      rintro e1 w1 ⟨rfl, k1⟩
      have s1 := keepy17 k1 s0
      clear s0 k1
      go_wp2_with fail
      refine (CH.out _).mono ?_
      rintro e2 w2 ⟨rfl, k2⟩
      have s2 := keepy17 k2 s1
      clear s1 k2
      go_wp2_with fail
      refine (CW.out _ (fun j hj w' k' => HZ.out j hj w' (HT.out.keep (s2.2.2.2.2.2.2.2.2.2.2.2.2.2.2.2.2.2.trans k')) (HB.out.keep (s2.2.2.2.2.2.2.2.2.2.2.2.2.2.2.2.2.2.trans k')) (HS.out.keep (s2.2.2.2.2.2.2.2.2.2.2.2.2.2.2.2.2.2.trans k')))).mono ?_
      rintro e9 w9 ⟨v9, rfl, o9, k9⟩
      have hz9 := s2.2.2.2.2.2.2.2.2.2.2.2.2.2.2.2.2.2.size
      go_wp2_with fail
      go_ret2
      exact ⟨_, rfl, o9.base hz9, s2.2.2.2.2.2.2.2.2.2.2.2.2.2.2.2.2.2.trans k9⟩
theorem keepy18 {W0 w w1 : World} {p0 p1 p2 p3 p4 p5 p6 p7 p8 p9 p10 p11 p12 p13 p14 p15 p16 p17 : Addr} {v0 v1 v2 v3 v4 v5 v6 v7 v8 v9 v10 v11 v12 v13 v14 v15 v16 v17 : Value} (k : Kp w w1) (h : w.cell? p0 = some v0 ∧ w.cell? p1 = some v1 ∧ w.cell? p2 = some v2 ∧ w.cell? p3 = some v3 ∧ w.cell? p4 = some v4 ∧ w.cell? p5 = some v5 ∧ w.cell? p6 = some v6 ∧ w.cell? p7 = some v7 ∧ w.cell? p8 = some v8 ∧ w.cell? p9 = some v9 ∧ w.cell? p10 = some v10 ∧ w.cell? p11 = some v11 ∧ w.cell? p12 = some v12 ∧ w.cell? p13 = some v13 ∧ w.cell? p14 = some v14 ∧ w.cell? p15 = some v15 ∧ w.cell? p16 = some v16 ∧ w.cell? p17 = some v17 ∧ Kp W0 w) : w1.cell? p0 = some v0 ∧ w1.cell? p1 = some v1 ∧ w1.cell? p2 = some v2 ∧ w1.cell? p3 = some v3 ∧ w1.cell? p4 = some v4 ∧ w1.cell? p5 = some v5 ∧ w1.cell? p6 = some v6 ∧ w1.cell? p7 = some v7 ∧ w1.cell? p8 = some v8 ∧ w1.cell? p9 = some v9 ∧ w1.cell? p10 = some v10 ∧ w1.cell? p11 = some v11 ∧ w1.cell? p12 = some v12 ∧ w1.cell? p13 = some v13 ∧ w1.cell? p14 = some v14 ∧ w1.cell? p15 = some v15 ∧ w1.cell? p16 = some v16 ∧ w1.cell? p17 = some v17 ∧ Kp W0 w1 :=
  ⟨k.cell h.1, k.cell h.2.1, k.cell h.2.2.1, k.cell h.2.2.2.1, k.cell h.2.2.2.2.1, k.cell h.2.2.2.2.2.1, k.cell h.2.2.2.2.2.2.1, k.cell h.2.2.2.2.2.2.2.1, k.cell h.2.2.2.2.2.2.2.2.1, k.cell h.2.2.2.2.2.2.2.2.2.1, k.cell h.2.2.2.2.2.2.2.2.2.2.1, k.cell h.2.2.2.2.2.2.2.2.2.2.2.1, k.cell h.2.2.2.2.2.2.2.2.2.2.2.2.1, k.cell h.2.2.2.2.2.2.2.2.2.2.2.2.2.1, k.cell h.2.2.2.2.2.2.2.2.2.2.2.2.2.2.1, k.cell h.2.2.2.2.2.2.2.2.2.2.2.2.2.2.2.1, k.cell h.2.2.2.2.2.2.2.2.2.2.2.2.2.2.2.2.1, k.cell h.2.2.2.2.2.2.2.2.2.2.2.2.2.2.2.2.2.1, h.2.2.2.2.2.2.2.2.2.2.2.2.2.2.2.2.2.2.trans k⟩
theorem drewy18 {W0 w : World} {p0 p1 p2 p3 p4 p5 p6 p7 p8 p9 p10 p11 p12 p13 p14 p15 p16 p17 : Addr} {v0 v1 v2 v3 v4 v5 v6 v7 v8 v9 v10 v11 v12 v13 v14 v15 v16 v17 : Value} (h : w.cell? p0 = some v0 ∧ w.cell? p1 = some v1 ∧ w.cell? p2 = some v2 ∧ w.cell? p3 = some v3 ∧ w.cell? p4 = some v4 ∧ w.cell? p5 = some v5 ∧ w.cell? p6 = some v6 ∧ w.cell? p7 = some v7 ∧ w.cell? p8 = some v8 ∧ w.cell? p9 = some v9 ∧ w.cell? p10 = some v10 ∧ w.cell? p11 = some v11 ∧ w.cell? p12 = some v12 ∧ w.cell? p13 = some v13 ∧ w.cell? p14 = some v14 ∧ w.cell? p15 = some v15 ∧ w.cell? p16 = some v16 ∧ w.cell? p17 = some v17 ∧ Kp W0 w) : w.drew.cell? p0 = some v0 ∧ w.drew.cell? p1 = some v1 ∧ w.drew.cell? p2 = some v2 ∧ w.drew.cell? p3 = some v3 ∧ w.drew.cell? p4 = some v4 ∧ w.drew.cell? p5 = some v5 ∧ w.drew.cell? p6 = some v6 ∧ w.drew.cell? p7 = some v7 ∧ w.drew.cell? p8 = some v8 ∧ w.drew.cell? p9 = some v9 ∧ w.drew.cell? p10 = some v10 ∧ w.drew.cell? p11 = some v11 ∧ w.drew.cell? p12 = some v12 ∧ w.drew.cell? p13 = some v13 ∧ w.drew.cell? p14 = some v14 ∧ w.drew.cell? p15 = some v15 ∧ w.drew.cell? p16 = some v16 ∧ w.drew.cell? p17 = some v17 ∧ Kp W0 w.drew :=
  ⟨h.1, h.2.1, h.2.2.1, h.2.2.2.1, h.2.2.2.2.1, h.2.2.2.2.2.1, h.2.2.2.2.2.2.1, h.2.2.2.2.2.2.2.1, h.2.2.2.2.2.2.2.2.1, h.2.2.2.2.2.2.2.2.2.1, h.2.2.2.2.2.2.2.2.2.2.1, h.2.2.2.2.2.2.2.2.2.2.2.1, h.2.2.2.2.2.2.2.2.2.2.2.2.1, h.2.2.2.2.2.2.2.2.2.2.2.2.2.1, h.2.2.2.2.2.2.2.2.2.2.2.2.2.2.1, h.2.2.2.2.2.2.2.2.2.2.2.2.2.2.2.1, h.2.2.2.2.2.2.2.2.2.2.2.2.2.2.2.2.1, h.2.2.2.2.2.2.2.2.2.2.2.2.2.2.2.2.2.1, h.2.2.2.2.2.2.2.2.2.2.2.2.2.2.2.2.2.2.drew⟩

set_option maxRecDepth 100000 in
set_option maxHeartbeats 4000000 in
theorem zoneSources_s (At Ak : Option Addr) (nt nk ct ck : Nat) (l : List Ter) (m : List Knd) (a b c d e W H : Int) (Ax Ar Ay : Option Addr) (nx cx nr cr ny cy : Nat) (lt lr ld : List Int) (T Z : Int) (Au : Option Addr) (nu cu : Nat) (us : List Uni) (sd i : Int) (w : World) (hs : Spans w) (ht : Tab w) (hu : SpU w) (hB : BrdAt w At Ak nt nk l m (.slice Ax nx cx) (.slice Ar nr cr) (.slice Ay ny cy) lt lr ld) (hS : StaAt w (.slice Au nu cu) us) :
    Calls Tryz.prog 35 #[bv (.slice At nt ct) (.slice Ak nk ck) a b c d e W H (.slice Ax nx cx) (.slice Ar nr cr) (.slice Ay ny cy), sv T Z (.slice Au nu cu), .int .i64 sd, .int .i64 i] w (ListPostI (((brdOk ⟨l, m, a, b, c, d, e⟩ W H lt lr ld && staOk ⟨l, m, a, b, c, d, e⟩ W H lt T Z us) && onI W H i) && spB 0 1 sd) (srcL l m lt lr ld W us sd i) w) := by
  have KA : Kp w (((w.alloc (.cells #[.slice At nt ct, .slice Ak nk ck, .int .i64 a, .int .i64 b, .int .i64 c, .int .i64 d, .int .i64 e, .int .i64 W, .int .i64 H, .slice Ax nx cx, .slice Ar nr cr, .slice Ay ny cy] 44)).alloc (.cells #[.int .i64 T, .int .i64 Z, .slice Au nu cu] 48)).alloc (.cells #[.int .i64 i] 3)) := (((Kp.refl w).alloc _).alloc _).alloc _
  have s0 : cb12 (((w.alloc (.cells #[.slice At nt ct, .slice Ak nk ck, .int .i64 a, .int .i64 b, .int .i64 c, .int .i64 d, .int .i64 e, .int .i64 W, .int .i64 H, .slice Ax nx cx, .slice Ar nr cr, .slice Ay ny cy] 44)).alloc (.cells #[.int .i64 T, .int .i64 Z, .slice Au nu cu] 48)).alloc (.cells #[.int .i64 i] 3)) (w.heap.size) (.slice At nt ct) (.slice Ak nk ck) (.int .i64 a) (.int .i64 b) (.int .i64 c) (.int .i64 d) (.int .i64 e) (.int .i64 W) (.int .i64 H) (.slice Ax nx cx) (.slice Ar nr cr) (.slice Ay ny cy) (cb3 (((w.alloc (.cells #[.slice At nt ct, .slice Ak nk ck, .int .i64 a, .int .i64 b, .int .i64 c, .int .i64 d, .int .i64 e, .int .i64 W, .int .i64 H, .slice Ax nx cx, .slice Ar nr cr, .slice Ay ny cy] 44)).alloc (.cells #[.int .i64 T, .int .i64 Z, .slice Au nu cu] 48)).alloc (.cells #[.int .i64 i] 3)) (w.heap.size + 1) (.int .i64 T) (.int .i64 Z) (.slice Au nu cu) (cb2 (((w.alloc (.cells #[.slice At nt ct, .slice Ak nk ck, .int .i64 a, .int .i64 b, .int .i64 c, .int .i64 d, .int .i64 e, .int .i64 W, .int .i64 H, .slice Ax nx cx, .slice Ar nr cr, .slice Ay ny cy] 44)).alloc (.cells #[.int .i64 T, .int .i64 Z, .slice Au nu cu] 48)).alloc (.cells #[.int .i64 i] 3)) 0 (.int .i64 0) (.int .i64 1) ((((w.alloc (.cells #[.slice At nt ct, .slice Ak nk ck, .int .i64 a, .int .i64 b, .int .i64 c, .int .i64 d, .int .i64 e, .int .i64 W, .int .i64 H, .slice Ax nx cx, .slice Ar nr cr, .slice Ay ny cy] 44)).alloc (.cells #[.int .i64 T, .int .i64 Z, .slice Au nu cu] 48)).alloc (.cells #[.int .i64 i] 3)).cell? ⟨w.heap.size + 1 + 1, 0, none⟩ = some (.int .i64 i) ∧ Kp w (((w.alloc (.cells #[.slice At nt ct, .slice Ak nk ck, .int .i64 a, .int .i64 b, .int .i64 c, .int .i64 d, .int .i64 e, .int .i64 W, .int .i64 H, .slice Ax nx cx, .slice Ar nr cr, .slice Ay ny cy] 44)).alloc (.cells #[.int .i64 T, .int .i64 Z, .slice Au nu cu] 48)).alloc (.cells #[.int .i64 i] 3))))) := ⟨by simp [go_sem], by simp [go_sem], by simp [go_sem], by simp [go_sem], by simp [go_sem], by simp [go_sem], by simp [go_sem], by simp [go_sem], by simp [go_sem], by simp [go_sem], by simp [go_sem], by simp [go_sem], by simp [go_sem], by simp [go_sem], by simp [go_sem], KA.cell hu.side.1, KA.cell hu.side.2, by simp [go_sem], KA⟩
  have HSP := Lib.hid hs
  have HT := Lib.hid ht
  have HU := Lib.hid hu
  have HB := Lib.hid hB
  have HS := Lib.hid hS
  clear hs ht hu hB hS
  have C0 := Lib.hid (fun (w : World) hs ht hu hB hS => isStateOn_any At Ak nt nk ct ck l m a b c d e W H (.slice Ax nx cx) (.slice Ar nr cr) (.slice Ay ny cy) lt lr ld T Z (.slice Au nu cu) us w hs ht hu hB hS)
  cases hg0 : brdOk ⟨l, m, a, b, c, d, e⟩ W H lt lr ld && staOk ⟨l, m, a, b, c, d, e⟩ W H lt T Z us
  · rw [hg0] at C0
    clear hg0
    repeat (first | rw [Bool.true_and] | rw [Bool.and_true] | rw [Bool.false_and] | rw [Bool.and_false])
    go_enter Tryz.func35, Tryz.ntmps35
    go_wp2_with fail
    refine (C0.out _ (HSP.out.keep s0.2.2.2.2.2.2.2.2.2.2.2.2.2.2.2.2.2.2) (HT.out.keep s0.2.2.2.2.2.2.2.2.2.2.2.2.2.2.2.2.2.2) (HU.out.keep s0.2.2.2.2.2.2.2.2.2.2.2.2.2.2.2.2.2.2) (HB.out.keep s0.2.2.2.2.2.2.2.2.2.2.2.2.2.2.2.2.2.2) (HS.out.keep s0.2.2.2.2.2.2.2.2.2.2.2.2.2.2.2.2.2.2)).mono ?_
    rintro e1 w1 ⟨rfl, k1⟩
    have s1 := keepy18 k1 s0
    clear s0 k1
    go_wp2_with fail
    go_ret2
    exact ListPostI.no (s1.2.2.2.2.2.2.2.2.2.2.2.2.2.2.2.2.2.2)
  · rw [hg0] at C0
    have hok : brdOk ⟨l, m, a, b, c, d, e⟩ W H lt lr ld = true := by
      simp only [Bool.and_eq_true] at hg0
      exact hg0.1
    have hst : staOk ⟨l, m, a, b, c, d, e⟩ W H lt T Z us = true := by
      simp only [Bool.and_eq_true] at hg0
      exact hg0.2
    obtain ⟨p1, p2, p3, p4⟩ := mapOk_side (brdOk_map hok)
    have hlen := mapOk_len (brdOk_map hok)
    have CH : Hid (∀ w, Calls Tryz.prog 70 #[.agg #[.int .i64 0, .int .i64 1], .int .i64 sd] w fun e' w' => e' = .returned (.bool (spB 0 1 sd)) ∧ Kp w w') := Lib.hid fun w => has_any 0 1 sd w
    cases hg1 : spB 0 1 sd
    · rw [hg1] at CH
      clear hg1 hok hst p1 p2 p3 p4 hlen hg0
      repeat (first | rw [Bool.true_and] | rw [Bool.and_true] | rw [Bool.false_and] | rw [Bool.and_false])
      go_enter Tryz.func35, Tryz.ntmps35
      go_wp2_with fail
      refine (C0.out _ (HSP.out.keep s0.2.2.2.2.2.2.2.2.2.2.2.2.2.2.2.2.2.2) (HT.out.keep s0.2.2.2.2.2.2.2.2.2.2.2.2.2.2.2.2.2.2) (HU.out.keep s0.2.2.2.2.2.2.2.2.2.2.2.2.2.2.2.2.2.2) (HB.out.keep s0.2.2.2.2.2.2.2.2.2.2.2.2.2.2.2.2.2.2) (HS.out.keep s0.2.2.2.2.2.2.2.2.2.2.2.2.2.2.2.2.2.2)).mono ?_
      rintro e1 w1 ⟨rfl, k1⟩
      have s1 := keepy18 k1 s0
      clear s0 k1
      go_wp2_with fail
      refine (CH.out _).mono ?_
      rintro e2 w2 ⟨rfl, k2⟩
      have s2 := keepy18 k2 s1
      clear s1 k2
      go_wp2_with fail
      go_ret2
      exact ListPostI.no (s2.2.2.2.2.2.2.2.2.2.2.2.2.2.2.2.2.2.2)
    · rw [hg1] at CH
      have CIX : Hid (∀ w, Calls Tryz.prog 58 #[mp W H (.slice Ax nx cx) (.slice Ar nr cr) (.slice Ay ny cy), .int .i64 i] w fun e' w' => e' = .returned (.bool (onI W H i)) ∧ Kp w w') := Lib.hid fun w => isIndex_any W H (.slice Ax nx cx) (.slice Ar nr cr) (.slice Ay ny cy) i w p1 p2 p3 p4
      cases hg2 : onI W H i
      · rw [hg2] at CIX
        clear hg2 hok hst p1 p2 p3 p4 hlen hg0 hg1
        repeat (first | rw [Bool.true_and] | rw [Bool.and_true] | rw [Bool.false_and] | rw [Bool.and_false])
        go_enter Tryz.func35, Tryz.ntmps35
        go_wp2_with fail
        refine (C0.out _ (HSP.out.keep s0.2.2.2.2.2.2.2.2.2.2.2.2.2.2.2.2.2.2) (HT.out.keep s0.2.2.2.2.2.2.2.2.2.2.2.2.2.2.2.2.2.2) (HU.out.keep s0.2.2.2.2.2.2.2.2.2.2.2.2.2.2.2.2.2.2) (HB.out.keep s0.2.2.2.2.2.2.2.2.2.2.2.2.2.2.2.2.2.2) (HS.out.keep s0.2.2.2.2.2.2.2.2.2.2.2.2.2.2.2.2.2.2)).mono ?_
        rintro e1 w1 ⟨rfl, k1⟩
        have s1 := keepy18 k1 s0
        clear s0 k1
        go_wp2_with fail
        refine (CH.out _).mono ?_
        rintro e2 w2 ⟨rfl, k2⟩
        have s2 := keepy18 k2 s1
        clear s1 k2
        go_wp2_with fail
        refine (CIX.out _).mono ?_
        rintro e3 w3 ⟨rfl, k3⟩
        have s3 := keepy18 k3 s2
        clear s2 k3
        go_wp2_with fail
        go_ret2
        exact ListPostI.no (s3.2.2.2.2.2.2.2.2.2.2.2.2.2.2.2.2.2.2)
      · rw [hg2] at CIX
        have HC := Lib.hid (fun (B1 : Nat) (w0 : World) (h0 : ZonAt w0 B1 At Ak nt nk ct ck a b c d e W H (.slice Ax nx cx) (.slice Ar nr cr) (.slice Ay ny cy) T Z (.slice Au nu cu) sd) (hc : w0.cell? ⟨w.heap.size + 1 + 1, 0, none⟩ = some (.int .i64 i)) (ht : Tab w0) (hB : BrdAt w0 At Ak nt nk l m (.slice Ax nx cx) (.slice Ar nr cr) (.slice Ay ny cy) lt lr ld) (hS : StaAt w0 (.slice Au nu cu) us) => unitsWhere_S #[.pointer (some ⟨B1, 0, none⟩), .pointer (some ⟨w.heap.size + 1 + 1, 0, none⟩)] T Z (.slice Au nu cu) us (srcB l m lt lr ld W sd i) w0 w0 hS (staOk_parts hst).2.1 (fun z hz w' k' => srcClo_any At Ak nt nk ct ck l m a b c d e W H (.slice Ax nx cx) (.slice Ar nr cr) (.slice Ay ny cy) lt lr ld T Z (.slice Au nu cu) us B1 (w.heap.size + 1 + 1) sd i z w' (ht.keep k') (hB.keep k') hok hst hg2 hz (h0.keep k') (k'.cell hc)) (Kp.refl _))
        have HL : Hid (srcL l m lt lr ld W us sd i = unL (srcB l m lt lr ld W sd i) us us.length) := Lib.hid rfl
        rw [HL.out]
        clear hok hst p1 p2 p3 p4 hlen hg0 hg1 hg2 HL
        repeat (first | rw [Bool.true_and] | rw [Bool.and_true] | rw [Bool.false_and] | rw [Bool.and_false])
        go_enter Tryz.func35, Tryz.ntmps35
        go_wp2_with fail
        refine (C0.out _ (HSP.out.keep s0.2.2.2.2.2.2.2.2.2.2.2.2.2.2.2.2.2.2) (HT.out.keep s0.2.2.2.2.2.2.2.2.2.2.2.2.2.2.2.2.2.2) (HU.out.keep s0.2.2.2.2.2.2.2.2.2.2.2.2.2.2.2.2.2.2) (HB.out.keep s0.2.2.2.2.2.2.2.2.2.2.2.2.2.2.2.2.2.2) (HS.out.keep s0.2.2.2.2.2.2.2.2.2.2.2.2.2.2.2.2.2.2)).mono ?_
        rintro e1 w1 ⟨rfl, k1⟩
        have s1 := keepy18 k1 s0
        clear s0 k1
        go_wp2_with fail
        refine (CH.out _).mono ?_
        rintro e2 w2 ⟨rfl, k2⟩
        have s2 := keepy18 k2 s1
        clear s1 k2
        go_wp2_with fail
        refine (CIX.out _).mono ?_
        rintro e3 w3 ⟨rfl, k3⟩
        have s3 := keepy18 k3 s2
        clear s2 k3
        go_upto_region 4 with (fail)
        have kz : Kp w3 (w3.alloc (.cells #[.slice At nt ct, .slice Ak nk ck, .int .i64 a, .int .i64 b, .int .i64 c, .int .i64 d, .int .i64 e, .int .i64 W, .int .i64 H, .slice Ax nx cx, .slice Ar nr cr, .slice Ay ny cy, .int .i64 T, .int .i64 Z, .slice Au nu cu, .int .i64 sd] 93)) := (Kp.refl w3).alloc _
        have h0 : ZonAt (w3.alloc (.cells #[.slice At nt ct, .slice Ak nk ck, .int .i64 a, .int .i64 b, .int .i64 c, .int .i64 d, .int .i64 e, .int .i64 W, .int .i64 H, .slice Ax nx cx, .slice Ar nr cr, .slice Ay ny cy, .int .i64 T, .int .i64 Z, .slice Au nu cu, .int .i64 sd] 93)) w3.heap.size At Ak nt nk ct ck a b c d e W H (.slice Ax nx cx) (.slice Ar nr cr) (.slice Ay ny cy) T Z (.slice Au nu cu) sd := ⟨by simp [go_sem], by simp [go_sem], by simp [go_sem], by simp [go_sem], by simp [go_sem], by simp [go_sem], by simp [go_sem], by simp [go_sem], by simp [go_sem], by simp [go_sem], by simp [go_sem], by simp [go_sem], by simp [go_sem], by simp [go_sem], by simp [go_sem], by simp [go_sem]⟩
        have s9 := keepy18 kz s3
        have CW := Lib.hid (HC.out w3.heap.size _ h0 s9.2.2.2.2.2.2.2.2.2.2.2.2.2.2.2.2.2.1 (HT.out.keep s9.2.2.2.2.2.2.2.2.2.2.2.2.2.2.2.2.2.2) (HB.out.keep s9.2.2.2.2.2.2.2.2.2.2.2.2.2.2.2.2.2.2) (HS.out.keep s9.2.2.2.2.2.2.2.2.2.2.2.2.2.2.2.2.2.2))
        clear s3 kz h0
        go_wp2_with fail
        refine CW.out.mono ?_
        rintro e9 w9 ⟨v9, rfl, o9, k9⟩
        have hz9 := s9.2.2.2.2.2.2.2.2.2.2.2.2.2.2.2.2.2.2.size
        go_wp2_with fail
        go_ret2
        exact ⟨_, rfl, o9.base hz9, s9.2.2.2.2.2.2.2.2.2.2.2.2.2.2.2.2.2.2.trans k9⟩

theorem zoneSourcesP_any (At Ak : Option Addr) (nt nk ct ck : Nat) (l : List Ter) (m : List Knd) (a b c d e W H : Int) (x r y : Value) (lt lr ld : List Int) (T Z : Int) (u : Value) (us : List Uni) (sd i : Int) (w : World) (hs : Spans w) (ht : Tab w) (hu : SpU w) (hB : BrdAt w At Ak nt nk l m x r y lt lr ld) (hS : StaAt w u us) :
    Calls Tryz.prog 35 #[bv (.slice At nt ct) (.slice Ak nk ck) a b c d e W H x r y, sv T Z u, .int .i64 sd, .int .i64 i] w (ListPostI (((brdOk ⟨l, m, a, b, c, d, e⟩ W H lt lr ld && staOk ⟨l, m, a, b, c, d, e⟩ W H lt T Z us) && onI W H i) && spB 0 1 sd) (srcL l m lt lr ld W us sd i) w) := by
  obtain ⟨Ax, cx, rfl, _⟩ := hB.L.rt
  obtain ⟨Ar, cr, rfl, _⟩ := hB.L.rr
  obtain ⟨Ay, cy, rfl, _⟩ := hB.L.rd
  obtain ⟨Au, cu, rfl, _⟩ := hS.rd
  exact zoneSources_s At Ak nt nk ct ck l m a b c d e W H Ax Ar Ay lt.length cx lr.length cr ld.length cy lt lr ld T Z Au us.length cu us sd i w hs ht hu hB hS

end Go.Proofs.YtncmjpgknckhjaaGreatDoor
