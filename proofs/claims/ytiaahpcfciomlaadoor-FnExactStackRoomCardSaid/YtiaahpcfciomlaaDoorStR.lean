/-
  StackRoom of both sides. Nothing that was there is changed. The named variables hold what the program's text lays.
-/
import Derived.Test.YtiaahpcfciomlaaDoorUnL
import Derived.Test.YtiaahpcfciomlaaDoorUnH
namespace Go.Proofs.YtiaahpcfciomlaaDoor
open Go.RowKit

theorem keepx15 {W0 w w1 : World} {p0 p1 p2 p3 p4 p5 p6 p7 p8 p9 p10 p11 p12 p13 p14 : Addr} {v0 v1 v2 v3 v4 v5 v6 v7 v8 v9 v10 v11 v12 v13 v14 : Value} (k : Kp w w1) (h : w.cell? p0 = some v0 ∧ w.cell? p1 = some v1 ∧ w.cell? p2 = some v2 ∧ w.cell? p3 = some v3 ∧ w.cell? p4 = some v4 ∧ w.cell? p5 = some v5 ∧ w.cell? p6 = some v6 ∧ w.cell? p7 = some v7 ∧ w.cell? p8 = some v8 ∧ w.cell? p9 = some v9 ∧ w.cell? p10 = some v10 ∧ w.cell? p11 = some v11 ∧ w.cell? p12 = some v12 ∧ w.cell? p13 = some v13 ∧ w.cell? p14 = some v14 ∧ Kp W0 w) : w1.cell? p0 = some v0 ∧ w1.cell? p1 = some v1 ∧ w1.cell? p2 = some v2 ∧ w1.cell? p3 = some v3 ∧ w1.cell? p4 = some v4 ∧ w1.cell? p5 = some v5 ∧ w1.cell? p6 = some v6 ∧ w1.cell? p7 = some v7 ∧ w1.cell? p8 = some v8 ∧ w1.cell? p9 = some v9 ∧ w1.cell? p10 = some v10 ∧ w1.cell? p11 = some v11 ∧ w1.cell? p12 = some v12 ∧ w1.cell? p13 = some v13 ∧ w1.cell? p14 = some v14 ∧ Kp W0 w1 :=
  ⟨k.cell h.1, k.cell h.2.1, k.cell h.2.2.1, k.cell h.2.2.2.1, k.cell h.2.2.2.2.1, k.cell h.2.2.2.2.2.1, k.cell h.2.2.2.2.2.2.1, k.cell h.2.2.2.2.2.2.2.1, k.cell h.2.2.2.2.2.2.2.2.1, k.cell h.2.2.2.2.2.2.2.2.2.1, k.cell h.2.2.2.2.2.2.2.2.2.2.1, k.cell h.2.2.2.2.2.2.2.2.2.2.2.1, k.cell h.2.2.2.2.2.2.2.2.2.2.2.2.1, k.cell h.2.2.2.2.2.2.2.2.2.2.2.2.2.1, k.cell h.2.2.2.2.2.2.2.2.2.2.2.2.2.2.1, h.2.2.2.2.2.2.2.2.2.2.2.2.2.2.2.trans k⟩
theorem drewx15 {W0 w : World} {p0 p1 p2 p3 p4 p5 p6 p7 p8 p9 p10 p11 p12 p13 p14 : Addr} {v0 v1 v2 v3 v4 v5 v6 v7 v8 v9 v10 v11 v12 v13 v14 : Value} (h : w.cell? p0 = some v0 ∧ w.cell? p1 = some v1 ∧ w.cell? p2 = some v2 ∧ w.cell? p3 = some v3 ∧ w.cell? p4 = some v4 ∧ w.cell? p5 = some v5 ∧ w.cell? p6 = some v6 ∧ w.cell? p7 = some v7 ∧ w.cell? p8 = some v8 ∧ w.cell? p9 = some v9 ∧ w.cell? p10 = some v10 ∧ w.cell? p11 = some v11 ∧ w.cell? p12 = some v12 ∧ w.cell? p13 = some v13 ∧ w.cell? p14 = some v14 ∧ Kp W0 w) : w.drew.cell? p0 = some v0 ∧ w.drew.cell? p1 = some v1 ∧ w.drew.cell? p2 = some v2 ∧ w.drew.cell? p3 = some v3 ∧ w.drew.cell? p4 = some v4 ∧ w.drew.cell? p5 = some v5 ∧ w.drew.cell? p6 = some v6 ∧ w.drew.cell? p7 = some v7 ∧ w.drew.cell? p8 = some v8 ∧ w.drew.cell? p9 = some v9 ∧ w.drew.cell? p10 = some v10 ∧ w.drew.cell? p11 = some v11 ∧ w.drew.cell? p12 = some v12 ∧ w.drew.cell? p13 = some v13 ∧ w.drew.cell? p14 = some v14 ∧ Kp W0 w.drew :=
  ⟨h.1, h.2.1, h.2.2.1, h.2.2.2.1, h.2.2.2.2.1, h.2.2.2.2.2.1, h.2.2.2.2.2.2.1, h.2.2.2.2.2.2.2.1, h.2.2.2.2.2.2.2.2.1, h.2.2.2.2.2.2.2.2.2.1, h.2.2.2.2.2.2.2.2.2.2.1, h.2.2.2.2.2.2.2.2.2.2.2.1, h.2.2.2.2.2.2.2.2.2.2.2.2.1, h.2.2.2.2.2.2.2.2.2.2.2.2.2.1, h.2.2.2.2.2.2.2.2.2.2.2.2.2.2.1, h.2.2.2.2.2.2.2.2.2.2.2.2.2.2.2.drew⟩
theorem keepx17 {W0 w w1 : World} {p0 p1 p2 p3 p4 p5 p6 p7 p8 p9 p10 p11 p12 p13 p14 p15 p16 : Addr} {v0 v1 v2 v3 v4 v5 v6 v7 v8 v9 v10 v11 v12 v13 v14 v15 v16 : Value} (k : Kp w w1) (h : w.cell? p0 = some v0 ∧ w.cell? p1 = some v1 ∧ w.cell? p2 = some v2 ∧ w.cell? p3 = some v3 ∧ w.cell? p4 = some v4 ∧ w.cell? p5 = some v5 ∧ w.cell? p6 = some v6 ∧ w.cell? p7 = some v7 ∧ w.cell? p8 = some v8 ∧ w.cell? p9 = some v9 ∧ w.cell? p10 = some v10 ∧ w.cell? p11 = some v11 ∧ w.cell? p12 = some v12 ∧ w.cell? p13 = some v13 ∧ w.cell? p14 = some v14 ∧ w.cell? p15 = some v15 ∧ w.cell? p16 = some v16 ∧ Kp W0 w) : w1.cell? p0 = some v0 ∧ w1.cell? p1 = some v1 ∧ w1.cell? p2 = some v2 ∧ w1.cell? p3 = some v3 ∧ w1.cell? p4 = some v4 ∧ w1.cell? p5 = some v5 ∧ w1.cell? p6 = some v6 ∧ w1.cell? p7 = some v7 ∧ w1.cell? p8 = some v8 ∧ w1.cell? p9 = some v9 ∧ w1.cell? p10 = some v10 ∧ w1.cell? p11 = some v11 ∧ w1.cell? p12 = some v12 ∧ w1.cell? p13 = some v13 ∧ w1.cell? p14 = some v14 ∧ w1.cell? p15 = some v15 ∧ w1.cell? p16 = some v16 ∧ Kp W0 w1 :=
  ⟨k.cell h.1, k.cell h.2.1, k.cell h.2.2.1, k.cell h.2.2.2.1, k.cell h.2.2.2.2.1, k.cell h.2.2.2.2.2.1, k.cell h.2.2.2.2.2.2.1, k.cell h.2.2.2.2.2.2.2.1, k.cell h.2.2.2.2.2.2.2.2.1, k.cell h.2.2.2.2.2.2.2.2.2.1, k.cell h.2.2.2.2.2.2.2.2.2.2.1, k.cell h.2.2.2.2.2.2.2.2.2.2.2.1, k.cell h.2.2.2.2.2.2.2.2.2.2.2.2.1, k.cell h.2.2.2.2.2.2.2.2.2.2.2.2.2.1, k.cell h.2.2.2.2.2.2.2.2.2.2.2.2.2.2.1, k.cell h.2.2.2.2.2.2.2.2.2.2.2.2.2.2.2.1, k.cell h.2.2.2.2.2.2.2.2.2.2.2.2.2.2.2.2.1, h.2.2.2.2.2.2.2.2.2.2.2.2.2.2.2.2.2.trans k⟩
theorem drewx17 {W0 w : World} {p0 p1 p2 p3 p4 p5 p6 p7 p8 p9 p10 p11 p12 p13 p14 p15 p16 : Addr} {v0 v1 v2 v3 v4 v5 v6 v7 v8 v9 v10 v11 v12 v13 v14 v15 v16 : Value} (h : w.cell? p0 = some v0 ∧ w.cell? p1 = some v1 ∧ w.cell? p2 = some v2 ∧ w.cell? p3 = some v3 ∧ w.cell? p4 = some v4 ∧ w.cell? p5 = some v5 ∧ w.cell? p6 = some v6 ∧ w.cell? p7 = some v7 ∧ w.cell? p8 = some v8 ∧ w.cell? p9 = some v9 ∧ w.cell? p10 = some v10 ∧ w.cell? p11 = some v11 ∧ w.cell? p12 = some v12 ∧ w.cell? p13 = some v13 ∧ w.cell? p14 = some v14 ∧ w.cell? p15 = some v15 ∧ w.cell? p16 = some v16 ∧ Kp W0 w) : w.drew.cell? p0 = some v0 ∧ w.drew.cell? p1 = some v1 ∧ w.drew.cell? p2 = some v2 ∧ w.drew.cell? p3 = some v3 ∧ w.drew.cell? p4 = some v4 ∧ w.drew.cell? p5 = some v5 ∧ w.drew.cell? p6 = some v6 ∧ w.drew.cell? p7 = some v7 ∧ w.drew.cell? p8 = some v8 ∧ w.drew.cell? p9 = some v9 ∧ w.drew.cell? p10 = some v10 ∧ w.drew.cell? p11 = some v11 ∧ w.drew.cell? p12 = some v12 ∧ w.drew.cell? p13 = some v13 ∧ w.drew.cell? p14 = some v14 ∧ w.drew.cell? p15 = some v15 ∧ w.drew.cell? p16 = some v16 ∧ Kp W0 w.drew :=
  ⟨h.1, h.2.1, h.2.2.1, h.2.2.2.1, h.2.2.2.2.1, h.2.2.2.2.2.1, h.2.2.2.2.2.2.1, h.2.2.2.2.2.2.2.1, h.2.2.2.2.2.2.2.2.1, h.2.2.2.2.2.2.2.2.2.1, h.2.2.2.2.2.2.2.2.2.2.1, h.2.2.2.2.2.2.2.2.2.2.2.1, h.2.2.2.2.2.2.2.2.2.2.2.2.1, h.2.2.2.2.2.2.2.2.2.2.2.2.2.1, h.2.2.2.2.2.2.2.2.2.2.2.2.2.2.1, h.2.2.2.2.2.2.2.2.2.2.2.2.2.2.2.1, h.2.2.2.2.2.2.2.2.2.2.2.2.2.2.2.2.1, h.2.2.2.2.2.2.2.2.2.2.2.2.2.2.2.2.2.drew⟩
theorem keepx19 {W0 w w1 : World} {p0 p1 p2 p3 p4 p5 p6 p7 p8 p9 p10 p11 p12 p13 p14 p15 p16 p17 p18 : Addr} {v0 v1 v2 v3 v4 v5 v6 v7 v8 v9 v10 v11 v12 v13 v14 v15 v16 v17 v18 : Value} (k : Kp w w1) (h : w.cell? p0 = some v0 ∧ w.cell? p1 = some v1 ∧ w.cell? p2 = some v2 ∧ w.cell? p3 = some v3 ∧ w.cell? p4 = some v4 ∧ w.cell? p5 = some v5 ∧ w.cell? p6 = some v6 ∧ w.cell? p7 = some v7 ∧ w.cell? p8 = some v8 ∧ w.cell? p9 = some v9 ∧ w.cell? p10 = some v10 ∧ w.cell? p11 = some v11 ∧ w.cell? p12 = some v12 ∧ w.cell? p13 = some v13 ∧ w.cell? p14 = some v14 ∧ w.cell? p15 = some v15 ∧ w.cell? p16 = some v16 ∧ w.cell? p17 = some v17 ∧ w.cell? p18 = some v18 ∧ Kp W0 w) : w1.cell? p0 = some v0 ∧ w1.cell? p1 = some v1 ∧ w1.cell? p2 = some v2 ∧ w1.cell? p3 = some v3 ∧ w1.cell? p4 = some v4 ∧ w1.cell? p5 = some v5 ∧ w1.cell? p6 = some v6 ∧ w1.cell? p7 = some v7 ∧ w1.cell? p8 = some v8 ∧ w1.cell? p9 = some v9 ∧ w1.cell? p10 = some v10 ∧ w1.cell? p11 = some v11 ∧ w1.cell? p12 = some v12 ∧ w1.cell? p13 = some v13 ∧ w1.cell? p14 = some v14 ∧ w1.cell? p15 = some v15 ∧ w1.cell? p16 = some v16 ∧ w1.cell? p17 = some v17 ∧ w1.cell? p18 = some v18 ∧ Kp W0 w1 :=
  ⟨k.cell h.1, k.cell h.2.1, k.cell h.2.2.1, k.cell h.2.2.2.1, k.cell h.2.2.2.2.1, k.cell h.2.2.2.2.2.1, k.cell h.2.2.2.2.2.2.1, k.cell h.2.2.2.2.2.2.2.1, k.cell h.2.2.2.2.2.2.2.2.1, k.cell h.2.2.2.2.2.2.2.2.2.1, k.cell h.2.2.2.2.2.2.2.2.2.2.1, k.cell h.2.2.2.2.2.2.2.2.2.2.2.1, k.cell h.2.2.2.2.2.2.2.2.2.2.2.2.1, k.cell h.2.2.2.2.2.2.2.2.2.2.2.2.2.1, k.cell h.2.2.2.2.2.2.2.2.2.2.2.2.2.2.1, k.cell h.2.2.2.2.2.2.2.2.2.2.2.2.2.2.2.1, k.cell h.2.2.2.2.2.2.2.2.2.2.2.2.2.2.2.2.1, k.cell h.2.2.2.2.2.2.2.2.2.2.2.2.2.2.2.2.2.1, k.cell h.2.2.2.2.2.2.2.2.2.2.2.2.2.2.2.2.2.2.1, h.2.2.2.2.2.2.2.2.2.2.2.2.2.2.2.2.2.2.2.trans k⟩
theorem drewx19 {W0 w : World} {p0 p1 p2 p3 p4 p5 p6 p7 p8 p9 p10 p11 p12 p13 p14 p15 p16 p17 p18 : Addr} {v0 v1 v2 v3 v4 v5 v6 v7 v8 v9 v10 v11 v12 v13 v14 v15 v16 v17 v18 : Value} (h : w.cell? p0 = some v0 ∧ w.cell? p1 = some v1 ∧ w.cell? p2 = some v2 ∧ w.cell? p3 = some v3 ∧ w.cell? p4 = some v4 ∧ w.cell? p5 = some v5 ∧ w.cell? p6 = some v6 ∧ w.cell? p7 = some v7 ∧ w.cell? p8 = some v8 ∧ w.cell? p9 = some v9 ∧ w.cell? p10 = some v10 ∧ w.cell? p11 = some v11 ∧ w.cell? p12 = some v12 ∧ w.cell? p13 = some v13 ∧ w.cell? p14 = some v14 ∧ w.cell? p15 = some v15 ∧ w.cell? p16 = some v16 ∧ w.cell? p17 = some v17 ∧ w.cell? p18 = some v18 ∧ Kp W0 w) : w.drew.cell? p0 = some v0 ∧ w.drew.cell? p1 = some v1 ∧ w.drew.cell? p2 = some v2 ∧ w.drew.cell? p3 = some v3 ∧ w.drew.cell? p4 = some v4 ∧ w.drew.cell? p5 = some v5 ∧ w.drew.cell? p6 = some v6 ∧ w.drew.cell? p7 = some v7 ∧ w.drew.cell? p8 = some v8 ∧ w.drew.cell? p9 = some v9 ∧ w.drew.cell? p10 = some v10 ∧ w.drew.cell? p11 = some v11 ∧ w.drew.cell? p12 = some v12 ∧ w.drew.cell? p13 = some v13 ∧ w.drew.cell? p14 = some v14 ∧ w.drew.cell? p15 = some v15 ∧ w.drew.cell? p16 = some v16 ∧ w.drew.cell? p17 = some v17 ∧ w.drew.cell? p18 = some v18 ∧ Kp W0 w.drew :=
  ⟨h.1, h.2.1, h.2.2.1, h.2.2.2.1, h.2.2.2.2.1, h.2.2.2.2.2.1, h.2.2.2.2.2.2.1, h.2.2.2.2.2.2.2.1, h.2.2.2.2.2.2.2.2.1, h.2.2.2.2.2.2.2.2.2.1, h.2.2.2.2.2.2.2.2.2.2.1, h.2.2.2.2.2.2.2.2.2.2.2.1, h.2.2.2.2.2.2.2.2.2.2.2.2.1, h.2.2.2.2.2.2.2.2.2.2.2.2.2.1, h.2.2.2.2.2.2.2.2.2.2.2.2.2.2.1, h.2.2.2.2.2.2.2.2.2.2.2.2.2.2.2.1, h.2.2.2.2.2.2.2.2.2.2.2.2.2.2.2.2.1, h.2.2.2.2.2.2.2.2.2.2.2.2.2.2.2.2.2.1, h.2.2.2.2.2.2.2.2.2.2.2.2.2.2.2.2.2.2.1, h.2.2.2.2.2.2.2.2.2.2.2.2.2.2.2.2.2.2.2.drew⟩

/-- How many units of a side can still be placed in a hex. -/
def roomN (us : List Uni) (st s i : Int) : Int := if 0 < cntS us i (1 - s) us.length then 0 else st - cntS us i s us.length
theorem roomN_eq {us : List Uni} {st s o i : Int} {b c : Int} (h1 : cntS us i o us.length = b) (h2 : cntS us i s us.length = c) (ho : o = 1 - s) : roomN us st s i = if 0 < b then 0 else st - c := by
  unfold roomN
  rw [← ho, h1, h2]

set_option maxRecDepth 100000 in
set_option maxHeartbeats 4000000 in
theorem specRoom_0 (At Ak : Option Addr) (nt nk ct ck : Nat) (l : List Ter) (m : List Knd) (a b c d e W H : Int) (x r y : Value) (lt lr ld : List Int) (T Z : Int) (u : Value) (us : List Uni) (i : Int) (w : World) (hB : BrdAt w At Ak nt nk l m x r y lt lr ld) (hS : StaAt w u us) (ho : ((brdOk ⟨l, m, a, b, c, d, e⟩ W H lt lr ld && staOk ⟨l, m, a, b, c, d, e⟩ W H lt T Z us) && onI W H i) = true) :
    Calls Tryd.prog 18 #[bv (.slice At nt ct) (.slice Ak nk ck) a b c d e W H x r y, sv T Z u, .int .i64 0, .int .i64 i] w fun e' w' => e' = .returned (.tuple #[.int .i64 (roomN us a 0 i), .bool true]) ∧ Kp w w' := by
  have KA : Kp w ((w.alloc (.cells #[.slice At nt ct, .slice Ak nk ck, .int .i64 a, .int .i64 b, .int .i64 c, .int .i64 d, .int .i64 e, .int .i64 W, .int .i64 H, x, r, y] 44)).alloc (.cells #[.int .i64 T, .int .i64 Z, u] 48)) := ((Kp.refl w).alloc _).alloc _
  have s0 : ((w.alloc (.cells #[.slice At nt ct, .slice Ak nk ck, .int .i64 a, .int .i64 b, .int .i64 c, .int .i64 d, .int .i64 e, .int .i64 W, .int .i64 H, x, r, y] 44)).alloc (.cells #[.int .i64 T, .int .i64 Z, u] 48)).cell? ⟨w.heap.size, 0, none⟩ = some (.slice At nt ct) ∧ ((w.alloc (.cells #[.slice At nt ct, .slice Ak nk ck, .int .i64 a, .int .i64 b, .int .i64 c, .int .i64 d, .int .i64 e, .int .i64 W, .int .i64 H, x, r, y] 44)).alloc (.cells #[.int .i64 T, .int .i64 Z, u] 48)).cell? ⟨w.heap.size, 1, none⟩ = some (.slice Ak nk ck) ∧ ((w.alloc (.cells #[.slice At nt ct, .slice Ak nk ck, .int .i64 a, .int .i64 b, .int .i64 c, .int .i64 d, .int .i64 e, .int .i64 W, .int .i64 H, x, r, y] 44)).alloc (.cells #[.int .i64 T, .int .i64 Z, u] 48)).cell? ⟨w.heap.size, 2, none⟩ = some (.int .i64 a) ∧ ((w.alloc (.cells #[.slice At nt ct, .slice Ak nk ck, .int .i64 a, .int .i64 b, .int .i64 c, .int .i64 d, .int .i64 e, .int .i64 W, .int .i64 H, x, r, y] 44)).alloc (.cells #[.int .i64 T, .int .i64 Z, u] 48)).cell? ⟨w.heap.size, 3, none⟩ = some (.int .i64 b) ∧ ((w.alloc (.cells #[.slice At nt ct, .slice Ak nk ck, .int .i64 a, .int .i64 b, .int .i64 c, .int .i64 d, .int .i64 e, .int .i64 W, .int .i64 H, x, r, y] 44)).alloc (.cells #[.int .i64 T, .int .i64 Z, u] 48)).cell? ⟨w.heap.size, 4, none⟩ = some (.int .i64 c) ∧ ((w.alloc (.cells #[.slice At nt ct, .slice Ak nk ck, .int .i64 a, .int .i64 b, .int .i64 c, .int .i64 d, .int .i64 e, .int .i64 W, .int .i64 H, x, r, y] 44)).alloc (.cells #[.int .i64 T, .int .i64 Z, u] 48)).cell? ⟨w.heap.size, 5, none⟩ = some (.int .i64 d) ∧ ((w.alloc (.cells #[.slice At nt ct, .slice Ak nk ck, .int .i64 a, .int .i64 b, .int .i64 c, .int .i64 d, .int .i64 e, .int .i64 W, .int .i64 H, x, r, y] 44)).alloc (.cells #[.int .i64 T, .int .i64 Z, u] 48)).cell? ⟨w.heap.size, 6, none⟩ = some (.int .i64 e) ∧ ((w.alloc (.cells #[.slice At nt ct, .slice Ak nk ck, .int .i64 a, .int .i64 b, .int .i64 c, .int .i64 d, .int .i64 e, .int .i64 W, .int .i64 H, x, r, y] 44)).alloc (.cells #[.int .i64 T, .int .i64 Z, u] 48)).cell? ⟨w.heap.size, 7, none⟩ = some (.int .i64 W) ∧ ((w.alloc (.cells #[.slice At nt ct, .slice Ak nk ck, .int .i64 a, .int .i64 b, .int .i64 c, .int .i64 d, .int .i64 e, .int .i64 W, .int .i64 H, x, r, y] 44)).alloc (.cells #[.int .i64 T, .int .i64 Z, u] 48)).cell? ⟨w.heap.size, 8, none⟩ = some (.int .i64 H) ∧ ((w.alloc (.cells #[.slice At nt ct, .slice Ak nk ck, .int .i64 a, .int .i64 b, .int .i64 c, .int .i64 d, .int .i64 e, .int .i64 W, .int .i64 H, x, r, y] 44)).alloc (.cells #[.int .i64 T, .int .i64 Z, u] 48)).cell? ⟨w.heap.size, 9, none⟩ = some (x) ∧ ((w.alloc (.cells #[.slice At nt ct, .slice Ak nk ck, .int .i64 a, .int .i64 b, .int .i64 c, .int .i64 d, .int .i64 e, .int .i64 W, .int .i64 H, x, r, y] 44)).alloc (.cells #[.int .i64 T, .int .i64 Z, u] 48)).cell? ⟨w.heap.size, 10, none⟩ = some (r) ∧ ((w.alloc (.cells #[.slice At nt ct, .slice Ak nk ck, .int .i64 a, .int .i64 b, .int .i64 c, .int .i64 d, .int .i64 e, .int .i64 W, .int .i64 H, x, r, y] 44)).alloc (.cells #[.int .i64 T, .int .i64 Z, u] 48)).cell? ⟨w.heap.size, 11, none⟩ = some (y) ∧ ((w.alloc (.cells #[.slice At nt ct, .slice Ak nk ck, .int .i64 a, .int .i64 b, .int .i64 c, .int .i64 d, .int .i64 e, .int .i64 W, .int .i64 H, x, r, y] 44)).alloc (.cells #[.int .i64 T, .int .i64 Z, u] 48)).cell? ⟨w.heap.size + 1, 0, none⟩ = some (.int .i64 T) ∧ ((w.alloc (.cells #[.slice At nt ct, .slice Ak nk ck, .int .i64 a, .int .i64 b, .int .i64 c, .int .i64 d, .int .i64 e, .int .i64 W, .int .i64 H, x, r, y] 44)).alloc (.cells #[.int .i64 T, .int .i64 Z, u] 48)).cell? ⟨w.heap.size + 1, 1, none⟩ = some (.int .i64 Z) ∧ ((w.alloc (.cells #[.slice At nt ct, .slice Ak nk ck, .int .i64 a, .int .i64 b, .int .i64 c, .int .i64 d, .int .i64 e, .int .i64 W, .int .i64 H, x, r, y] 44)).alloc (.cells #[.int .i64 T, .int .i64 Z, u] 48)).cell? ⟨w.heap.size + 1, 2, none⟩ = some (u) ∧ Kp w ((w.alloc (.cells #[.slice At nt ct, .slice Ak nk ck, .int .i64 a, .int .i64 b, .int .i64 c, .int .i64 d, .int .i64 e, .int .i64 W, .int .i64 H, x, r, y] 44)).alloc (.cells #[.int .i64 T, .int .i64 Z, u] 48)) := ⟨by simp [go_sem], by simp [go_sem], by simp [go_sem], by simp [go_sem], by simp [go_sem], by simp [go_sem], by simp [go_sem], by simp [go_sem], by simp [go_sem], by simp [go_sem], by simp [go_sem], by simp [go_sem], by simp [go_sem], by simp [go_sem], by simp [go_sem], KA⟩
  have C2 := Lib.hid (sHex_any At Ak nt nk ct ck l m a b c d e W H x r y lt lr ld T Z u us i _ (hB.keep KA) (hS.keep KA))
  have HS := Lib.hid hS
  rw [ho] at C2
  have hok : brdOk ⟨l, m, a, b, c, d, e⟩ W H lt lr ld = true := by
    simp only [Bool.and_eq_true] at ho
    exact ho.1.1
  have hst : staOk ⟨l, m, a, b, c, d, e⟩ W H lt T Z us = true := by
    simp only [Bool.and_eq_true] at ho
    exact ho.1.2
  have hi0 : 0 ≤ i := by
    simp only [onI, Bool.and_eq_true, decide_eq_true_iff] at ho
    exact ho.2.1
  have hla : 1 ≤ a ∧ a ≤ 4 := by
    have hok2 := hok
    simp only [brdOk, rulOk, limB, spB, Bool.and_eq_true, decide_eq_true_iff] at hok2
    omega
  have hn12 := (staOk_parts hst).2.1
  have CO := Lib.hid (fun w h => sOwner_any T Z u us i w h hn12)
  have CL : Hid (∀ w, Calls Tryd.prog 42 #[.int .i64 0, .int .i64 0, .int .i64 1] w fun e w' => e = .returned (.bool true) ∧ w = w') := Lib.hid fun w => l1In_sp 0 0 1 w
  obtain ⟨n0, e0⟩ : ∃ z, (unL (inHexS i 0) us us.length).length = z := ⟨_, rfl⟩
  have hn0 : n0 ≤ 12 := by have := unL_len (inHexS i 0) us us.length; omega
  have ec : cntS us i 0 us.length = (n0 : Int) := by unfold cntS; rw [e0]
  have CA : Hid (∀ w, StaAt w u us → Calls Tryd.prog 43 #[sv T Z u, .int .i64 i, .int .i64 0] w fun e w' => ∃ A c, e = .returned (.slice A n0 c) ∧ Kp w w') := Lib.hid fun w h => (sAt_any T Z u us i 0 w h hn12).mono fun e w' ⟨v, he, ho, hk⟩ => by
    obtain ⟨A', c', rfl⟩ := ho.slice
    rw [e0] at he
    exact ⟨_, _, he, hk⟩
  have KO := own_cases hst hi0
  have ER := roomN_eq (st := a) (s := 0) (o := 1) (i := i) (us := us) rfl ec (by omega)
  generalize ownN us i = X at CO KO
  have ew : IntKind.i64.wrap (a - (n0 : Int)) = a - (n0 : Int) := IntWalk.i64_in _ (by omega)
  rw [ER]
  generalize hc : cntS us i 1 us.length = b at KO ⊢
  rw [ec] at KO
  have hX : (X = 1 ∧ 0 < b) ∨ ((X == 1) = false ∧ b = 0) := by
    rcases KO with ⟨z0, z1, rfl⟩ | ⟨z0, z1, rfl⟩ | ⟨z0, z1, rfl⟩
    · right; exact ⟨by decide, by omega⟩
    · right; exact ⟨by decide, by omega⟩
    · left; exact ⟨rfl, by omega⟩
  clear KO hB hS ho hst hok hi0 hla ec e0 ER hc
  rcases hX with ⟨rfl, hb⟩ | ⟨hx, rfl⟩
  · rw [if_pos hb]
    clear hb
    go_enter Tryd.func18, Tryd.ntmps18
    go_wp2_with fail
    refine C2.out.mono ?_
    rintro e1 w1 ⟨rfl, k1⟩
    have s1 := keepx15 k1 s0
    clear s0 k1
    go_wp2_with fail
    refine (CL.out _).mono ?_
    rintro e2 w2 ⟨rfl, rfl⟩
    go_wp2_with fail
    refine (CO.out _ (HS.out.keep s1.2.2.2.2.2.2.2.2.2.2.2.2.2.2.2)).mono ?_
    rintro e3 w3 ⟨rfl, k3⟩
    go_wp2_with fail
    go_ret2
    exact ⟨rfl, s1.2.2.2.2.2.2.2.2.2.2.2.2.2.2.2.trans k3⟩
  · rw [if_neg (by omega)]
    go_enter Tryd.func18, Tryd.ntmps18
    go_wp2_with fail
    refine C2.out.mono ?_
    rintro e1 w1 ⟨rfl, k1⟩
    have s1 := keepx15 k1 s0
    clear s0 k1
    go_wp2_with fail
    refine (CL.out _).mono ?_
    rintro e2 w2 ⟨rfl, rfl⟩
    go_wp2_with fail
    refine (CO.out _ (HS.out.keep s1.2.2.2.2.2.2.2.2.2.2.2.2.2.2.2)).mono ?_
    rintro e3 w3 ⟨rfl, k3⟩
    have s3 := keepx15 k3 s1
    clear s1 k3
    go_wp2_with fail
    have s5 := drewx15 s3
    refine wp_region_held_drew (S := (fun w' => w'.cell? ⟨w.heap.size, 0, none⟩ = some (.slice At nt ct) ∧ w'.cell? ⟨w.heap.size, 1, none⟩ = some (.slice Ak nk ck) ∧ w'.cell? ⟨w.heap.size, 2, none⟩ = some (.int .i64 a) ∧ w'.cell? ⟨w.heap.size, 3, none⟩ = some (.int .i64 b) ∧ w'.cell? ⟨w.heap.size, 4, none⟩ = some (.int .i64 c) ∧ w'.cell? ⟨w.heap.size, 5, none⟩ = some (.int .i64 d) ∧ w'.cell? ⟨w.heap.size, 6, none⟩ = some (.int .i64 e) ∧ w'.cell? ⟨w.heap.size, 7, none⟩ = some (.int .i64 W) ∧ w'.cell? ⟨w.heap.size, 8, none⟩ = some (.int .i64 H) ∧ w'.cell? ⟨w.heap.size, 9, none⟩ = some (x) ∧ w'.cell? ⟨w.heap.size, 10, none⟩ = some (r) ∧ w'.cell? ⟨w.heap.size, 11, none⟩ = some (y) ∧ w'.cell? ⟨w.heap.size + 1, 0, none⟩ = some (.int .i64 T) ∧ w'.cell? ⟨w.heap.size + 1, 1, none⟩ = some (.int .i64 Z) ∧ w'.cell? ⟨w.heap.size + 1, 2, none⟩ = some (u) ∧ Kp w w')) (by kernel_rfl) ?_ (fun hHeld => ?_)
    · exact s5
    refine wpAnyH_take (i := 0) (oi := ⟨some 26, _, _, _, _, _⟩) (v := ?_) rfl (by kernel_rfl) (by kernel_rfl) (by kernel_rfl) (fun _ _ _ h => h) (Or.inl ⟨by rfl, ?_⟩) (by assumption) ?_
    rotate_left
    · intro w hSw; (try dsimp only at hSw); go_simp; (all_goals with_reducible rfl)
    simp only [Act.put, List.setIfInBounds_toArray, List.set_cons_zero, List.set_cons_succ]
    refine wpAnyH_take (i := 1) (oi := ⟨some 27, _, _, _, _, _⟩) (v := ?_) rfl (by kernel_rfl) (by kernel_rfl) (by kernel_rfl) (fun _ _ _ h => h) (Or.inl ⟨by rfl, ?_⟩) (by assumption) ?_
    rotate_left
    · intro w hSw; (try dsimp only at hSw); go_simp; (all_goals with_reducible rfl)
    simp only [Act.put, List.setIfInBounds_toArray, List.set_cons_zero, List.set_cons_succ]
    refine wpAnyH_take (i := 2) (oi := ⟨some 28, _, _, _, _, _⟩) (v := ?_) rfl (by kernel_rfl) (by kernel_rfl) (by kernel_rfl) (fun _ _ _ h => h) (Or.inl ⟨by rfl, ?_⟩) (by assumption) ?_
    rotate_left
    · intro w hSw; (try dsimp only at hSw); go_simp; (all_goals with_reducible rfl)
    simp only [Act.put, List.setIfInBounds_toArray, List.set_cons_zero, List.set_cons_succ]
    refine wpAnyH_take (i := 3) (oi := ⟨some 29, _, _, _, _, _⟩) (v := ?_) rfl (by kernel_rfl) (by kernel_rfl) (by kernel_rfl) (fun _ _ _ h => h) (Or.inl ⟨by rfl, ?_⟩) (by assumption) ?_
    rotate_left
    · intro w hSw; (try dsimp only at hSw); go_simp; (all_goals with_reducible rfl)
    simp only [Act.put, List.setIfInBounds_toArray, List.set_cons_zero, List.set_cons_succ]
    refine wpAnyH_take (i := 4) (oi := ⟨some 30, _, _, _, _, _⟩) (v := ?_) rfl (by kernel_rfl) (by kernel_rfl) (by kernel_rfl) (fun _ _ _ h => h) (Or.inl ⟨by rfl, ?_⟩) (by assumption) ?_
    rotate_left
    · intro w hSw; (try dsimp only at hSw); go_simp; (all_goals with_reducible rfl)
    simp only [Act.put, List.setIfInBounds_toArray, List.set_cons_zero, List.set_cons_succ]
    refine wpAnyH_take (i := 5) (oi := ⟨some 31, _, _, _, _, _⟩) (v := ?_) rfl (by kernel_rfl) (by kernel_rfl) (by kernel_rfl) (fun _ _ _ h => h) (Or.inl ⟨by rfl, ?_⟩) (by assumption) ?_
    rotate_left
    · intro w hSw; (try dsimp only at hSw); go_simp; (all_goals with_reducible rfl)
    simp only [Act.put, List.setIfInBounds_toArray, List.set_cons_zero, List.set_cons_succ]
    refine wpAnyH_ready (rs := [6]) (by kernel_rfl) (by simp) ?_
    refine AllReadyH.cons (o := ⟨some 32, _, _, _, _, _⟩) rfl (fun K hK => ?_) AllReadyH.nil
    go_simp
    refine (CA.out _ (HS.out.keep hHeld.2.2.2.2.2.2.2.2.2.2.2.2.2.2.2)).mono ?_; rintro e6 w6 ⟨A6, c6, rfl, k6⟩; have s6 := keepx15 k6 hHeld
    go_wp2_with fail
    refine hK.out _ _ ?_ (fun hHeld => ?_)
    · (try dsimp only); (first | assumption | exact s6 | exact s5)
    clear hK K
    try simp only [Act.put, List.setIfInBounds_toArray, List.set_cons_zero, List.set_cons_succ]
    refine wpAnyH_take (i := 7) (oi := ⟨some 33, _, _, _, _, _⟩) (v := ?_) rfl (by kernel_rfl) (by kernel_rfl) (by kernel_rfl) (fun _ _ _ h => h) (Or.inl ⟨by rfl, ?_⟩) (by assumption) ?_
    rotate_left
    · intro w hSw; (try dsimp only at hSw); go_simp; (all_goals with_reducible rfl)
    simp only [Act.put, List.setIfInBounds_toArray, List.set_cons_zero, List.set_cons_succ]
    refine wpAnyH_take (i := 8) (oi := ⟨some 34, _, _, _, _, _⟩) (v := ?_) rfl (by kernel_rfl) (by kernel_rfl) (by kernel_rfl) (fun _ _ _ h => h) (Or.inl ⟨by rfl, ?_⟩) (by assumption) ?_
    rotate_left
    · intro w hSw; (try dsimp only at hSw); go_simp; (all_goals with_reducible rfl)
    simp only [Act.put, List.setIfInBounds_toArray, List.set_cons_zero, List.set_cons_succ]
    refine wpAnyH_take (i := 9) (oi := ⟨some 8, _, _, _, _, _⟩) (v := ?_) rfl (by kernel_rfl) (by kernel_rfl) (by kernel_rfl) (fun _ _ _ h => h) (Or.inl ⟨by rfl, ?_⟩) (by assumption) ?_
    rotate_left
    · intro w hSw; (try dsimp only at hSw); go_simp; (all_goals with_reducible rfl)
    simp only [Act.put, List.setIfInBounds_toArray, List.set_cons_zero, List.set_cons_succ]
    refine wpAnyH_take (i := 10) (oi := ⟨some 9, _, _, _, _, _⟩) (v := ?_) rfl (by kernel_rfl) (by kernel_rfl) (by kernel_rfl) (fun _ _ _ h => h) (Or.inl ⟨by rfl, ?_⟩) (by assumption) ?_
    rotate_left
    · intro w hSw; (try dsimp only at hSw); go_simp; (all_goals with_reducible rfl)
    simp only [Act.put, List.setIfInBounds_toArray, List.set_cons_zero, List.set_cons_succ]
    refine wpAnyH_done (by kernel_rfl) ?_ _
    go_wp2_with fail
    go_ret2
    exact ⟨rfl, hHeld.2.2.2.2.2.2.2.2.2.2.2.2.2.2.2⟩

set_option maxRecDepth 100000 in
set_option maxHeartbeats 4000000 in
theorem specRoom_1 (At Ak : Option Addr) (nt nk ct ck : Nat) (l : List Ter) (m : List Knd) (a b c d e W H : Int) (x r y : Value) (lt lr ld : List Int) (T Z : Int) (u : Value) (us : List Uni) (i : Int) (w : World) (hB : BrdAt w At Ak nt nk l m x r y lt lr ld) (hS : StaAt w u us) (ho : ((brdOk ⟨l, m, a, b, c, d, e⟩ W H lt lr ld && staOk ⟨l, m, a, b, c, d, e⟩ W H lt T Z us) && onI W H i) = true) :
    Calls Tryd.prog 18 #[bv (.slice At nt ct) (.slice Ak nk ck) a b c d e W H x r y, sv T Z u, .int .i64 1, .int .i64 i] w fun e' w' => e' = .returned (.tuple #[.int .i64 (roomN us a 1 i), .bool true]) ∧ Kp w w' := by
  have KA : Kp w ((w.alloc (.cells #[.slice At nt ct, .slice Ak nk ck, .int .i64 a, .int .i64 b, .int .i64 c, .int .i64 d, .int .i64 e, .int .i64 W, .int .i64 H, x, r, y] 44)).alloc (.cells #[.int .i64 T, .int .i64 Z, u] 48)) := ((Kp.refl w).alloc _).alloc _
  have s0 : ((w.alloc (.cells #[.slice At nt ct, .slice Ak nk ck, .int .i64 a, .int .i64 b, .int .i64 c, .int .i64 d, .int .i64 e, .int .i64 W, .int .i64 H, x, r, y] 44)).alloc (.cells #[.int .i64 T, .int .i64 Z, u] 48)).cell? ⟨w.heap.size, 0, none⟩ = some (.slice At nt ct) ∧ ((w.alloc (.cells #[.slice At nt ct, .slice Ak nk ck, .int .i64 a, .int .i64 b, .int .i64 c, .int .i64 d, .int .i64 e, .int .i64 W, .int .i64 H, x, r, y] 44)).alloc (.cells #[.int .i64 T, .int .i64 Z, u] 48)).cell? ⟨w.heap.size, 1, none⟩ = some (.slice Ak nk ck) ∧ ((w.alloc (.cells #[.slice At nt ct, .slice Ak nk ck, .int .i64 a, .int .i64 b, .int .i64 c, .int .i64 d, .int .i64 e, .int .i64 W, .int .i64 H, x, r, y] 44)).alloc (.cells #[.int .i64 T, .int .i64 Z, u] 48)).cell? ⟨w.heap.size, 2, none⟩ = some (.int .i64 a) ∧ ((w.alloc (.cells #[.slice At nt ct, .slice Ak nk ck, .int .i64 a, .int .i64 b, .int .i64 c, .int .i64 d, .int .i64 e, .int .i64 W, .int .i64 H, x, r, y] 44)).alloc (.cells #[.int .i64 T, .int .i64 Z, u] 48)).cell? ⟨w.heap.size, 3, none⟩ = some (.int .i64 b) ∧ ((w.alloc (.cells #[.slice At nt ct, .slice Ak nk ck, .int .i64 a, .int .i64 b, .int .i64 c, .int .i64 d, .int .i64 e, .int .i64 W, .int .i64 H, x, r, y] 44)).alloc (.cells #[.int .i64 T, .int .i64 Z, u] 48)).cell? ⟨w.heap.size, 4, none⟩ = some (.int .i64 c) ∧ ((w.alloc (.cells #[.slice At nt ct, .slice Ak nk ck, .int .i64 a, .int .i64 b, .int .i64 c, .int .i64 d, .int .i64 e, .int .i64 W, .int .i64 H, x, r, y] 44)).alloc (.cells #[.int .i64 T, .int .i64 Z, u] 48)).cell? ⟨w.heap.size, 5, none⟩ = some (.int .i64 d) ∧ ((w.alloc (.cells #[.slice At nt ct, .slice Ak nk ck, .int .i64 a, .int .i64 b, .int .i64 c, .int .i64 d, .int .i64 e, .int .i64 W, .int .i64 H, x, r, y] 44)).alloc (.cells #[.int .i64 T, .int .i64 Z, u] 48)).cell? ⟨w.heap.size, 6, none⟩ = some (.int .i64 e) ∧ ((w.alloc (.cells #[.slice At nt ct, .slice Ak nk ck, .int .i64 a, .int .i64 b, .int .i64 c, .int .i64 d, .int .i64 e, .int .i64 W, .int .i64 H, x, r, y] 44)).alloc (.cells #[.int .i64 T, .int .i64 Z, u] 48)).cell? ⟨w.heap.size, 7, none⟩ = some (.int .i64 W) ∧ ((w.alloc (.cells #[.slice At nt ct, .slice Ak nk ck, .int .i64 a, .int .i64 b, .int .i64 c, .int .i64 d, .int .i64 e, .int .i64 W, .int .i64 H, x, r, y] 44)).alloc (.cells #[.int .i64 T, .int .i64 Z, u] 48)).cell? ⟨w.heap.size, 8, none⟩ = some (.int .i64 H) ∧ ((w.alloc (.cells #[.slice At nt ct, .slice Ak nk ck, .int .i64 a, .int .i64 b, .int .i64 c, .int .i64 d, .int .i64 e, .int .i64 W, .int .i64 H, x, r, y] 44)).alloc (.cells #[.int .i64 T, .int .i64 Z, u] 48)).cell? ⟨w.heap.size, 9, none⟩ = some (x) ∧ ((w.alloc (.cells #[.slice At nt ct, .slice Ak nk ck, .int .i64 a, .int .i64 b, .int .i64 c, .int .i64 d, .int .i64 e, .int .i64 W, .int .i64 H, x, r, y] 44)).alloc (.cells #[.int .i64 T, .int .i64 Z, u] 48)).cell? ⟨w.heap.size, 10, none⟩ = some (r) ∧ ((w.alloc (.cells #[.slice At nt ct, .slice Ak nk ck, .int .i64 a, .int .i64 b, .int .i64 c, .int .i64 d, .int .i64 e, .int .i64 W, .int .i64 H, x, r, y] 44)).alloc (.cells #[.int .i64 T, .int .i64 Z, u] 48)).cell? ⟨w.heap.size, 11, none⟩ = some (y) ∧ ((w.alloc (.cells #[.slice At nt ct, .slice Ak nk ck, .int .i64 a, .int .i64 b, .int .i64 c, .int .i64 d, .int .i64 e, .int .i64 W, .int .i64 H, x, r, y] 44)).alloc (.cells #[.int .i64 T, .int .i64 Z, u] 48)).cell? ⟨w.heap.size + 1, 0, none⟩ = some (.int .i64 T) ∧ ((w.alloc (.cells #[.slice At nt ct, .slice Ak nk ck, .int .i64 a, .int .i64 b, .int .i64 c, .int .i64 d, .int .i64 e, .int .i64 W, .int .i64 H, x, r, y] 44)).alloc (.cells #[.int .i64 T, .int .i64 Z, u] 48)).cell? ⟨w.heap.size + 1, 1, none⟩ = some (.int .i64 Z) ∧ ((w.alloc (.cells #[.slice At nt ct, .slice Ak nk ck, .int .i64 a, .int .i64 b, .int .i64 c, .int .i64 d, .int .i64 e, .int .i64 W, .int .i64 H, x, r, y] 44)).alloc (.cells #[.int .i64 T, .int .i64 Z, u] 48)).cell? ⟨w.heap.size + 1, 2, none⟩ = some (u) ∧ Kp w ((w.alloc (.cells #[.slice At nt ct, .slice Ak nk ck, .int .i64 a, .int .i64 b, .int .i64 c, .int .i64 d, .int .i64 e, .int .i64 W, .int .i64 H, x, r, y] 44)).alloc (.cells #[.int .i64 T, .int .i64 Z, u] 48)) := ⟨by simp [go_sem], by simp [go_sem], by simp [go_sem], by simp [go_sem], by simp [go_sem], by simp [go_sem], by simp [go_sem], by simp [go_sem], by simp [go_sem], by simp [go_sem], by simp [go_sem], by simp [go_sem], by simp [go_sem], by simp [go_sem], by simp [go_sem], KA⟩
  have C2 := Lib.hid (sHex_any At Ak nt nk ct ck l m a b c d e W H x r y lt lr ld T Z u us i _ (hB.keep KA) (hS.keep KA))
  have HS := Lib.hid hS
  rw [ho] at C2
  have hok : brdOk ⟨l, m, a, b, c, d, e⟩ W H lt lr ld = true := by
    simp only [Bool.and_eq_true] at ho
    exact ho.1.1
  have hst : staOk ⟨l, m, a, b, c, d, e⟩ W H lt T Z us = true := by
    simp only [Bool.and_eq_true] at ho
    exact ho.1.2
  have hi0 : 0 ≤ i := by
    simp only [onI, Bool.and_eq_true, decide_eq_true_iff] at ho
    exact ho.2.1
  have hla : 1 ≤ a ∧ a ≤ 4 := by
    have hok2 := hok
    simp only [brdOk, rulOk, limB, spB, Bool.and_eq_true, decide_eq_true_iff] at hok2
    omega
  have hn12 := (staOk_parts hst).2.1
  have CO := Lib.hid (fun w h => sOwner_any T Z u us i w h hn12)
  have CL : Hid (∀ w, Calls Tryd.prog 42 #[.int .i64 1, .int .i64 0, .int .i64 1] w fun e w' => e = .returned (.bool true) ∧ w = w') := Lib.hid fun w => l1In_sp 1 0 1 w
  obtain ⟨n0, e0⟩ : ∃ z, (unL (inHexS i 1) us us.length).length = z := ⟨_, rfl⟩
  have hn0 : n0 ≤ 12 := by have := unL_len (inHexS i 1) us us.length; omega
  have ec : cntS us i 1 us.length = (n0 : Int) := by unfold cntS; rw [e0]
  have CA : Hid (∀ w, StaAt w u us → Calls Tryd.prog 43 #[sv T Z u, .int .i64 i, .int .i64 1] w fun e w' => ∃ A c, e = .returned (.slice A n0 c) ∧ Kp w w') := Lib.hid fun w h => (sAt_any T Z u us i 1 w h hn12).mono fun e w' ⟨v, he, ho, hk⟩ => by
    obtain ⟨A', c', rfl⟩ := ho.slice
    rw [e0] at he
    exact ⟨_, _, he, hk⟩
  have KO := own_cases hst hi0
  have ER := roomN_eq (st := a) (s := 1) (o := 0) (i := i) (us := us) rfl ec (by omega)
  generalize ownN us i = X at CO KO
  have ew : IntKind.i64.wrap (a - (n0 : Int)) = a - (n0 : Int) := IntWalk.i64_in _ (by omega)
  rw [ER]
  generalize hc : cntS us i 0 us.length = b at KO ⊢
  rw [ec] at KO
  have hX : (X = 0 ∧ 0 < b) ∨ ((X == 0) = false ∧ b = 0) := by
    rcases KO with ⟨z0, z1, rfl⟩ | ⟨z0, z1, rfl⟩ | ⟨z0, z1, rfl⟩
    · right; exact ⟨by decide, by omega⟩
    · left; exact ⟨rfl, by omega⟩
    · right; exact ⟨by decide, by omega⟩
  clear KO hB hS ho hst hok hi0 hla ec e0 ER hc
  rcases hX with ⟨rfl, hb⟩ | ⟨hx, rfl⟩
  · rw [if_pos hb]
    clear hb
    go_enter Tryd.func18, Tryd.ntmps18
    go_wp2_with fail
    refine C2.out.mono ?_
    rintro e1 w1 ⟨rfl, k1⟩
    have s1 := keepx15 k1 s0
    clear s0 k1
    go_wp2_with fail
    refine (CL.out _).mono ?_
    rintro e2 w2 ⟨rfl, rfl⟩
    go_wp2_with fail
    refine (CO.out _ (HS.out.keep s1.2.2.2.2.2.2.2.2.2.2.2.2.2.2.2)).mono ?_
    rintro e3 w3 ⟨rfl, k3⟩
    go_wp2_with fail
    go_ret2
    exact ⟨rfl, s1.2.2.2.2.2.2.2.2.2.2.2.2.2.2.2.trans k3⟩
  · rw [if_neg (by omega)]
    go_enter Tryd.func18, Tryd.ntmps18
    go_wp2_with fail
    refine C2.out.mono ?_
    rintro e1 w1 ⟨rfl, k1⟩
    have s1 := keepx15 k1 s0
    clear s0 k1
    go_wp2_with fail
    refine (CL.out _).mono ?_
    rintro e2 w2 ⟨rfl, rfl⟩
    go_wp2_with fail
    refine (CO.out _ (HS.out.keep s1.2.2.2.2.2.2.2.2.2.2.2.2.2.2.2)).mono ?_
    rintro e3 w3 ⟨rfl, k3⟩
    have s3 := keepx15 k3 s1
    clear s1 k3
    go_wp2_with fail
    have s5 := drewx15 s3
    refine wp_region_held_drew (S := (fun w' => w'.cell? ⟨w.heap.size, 0, none⟩ = some (.slice At nt ct) ∧ w'.cell? ⟨w.heap.size, 1, none⟩ = some (.slice Ak nk ck) ∧ w'.cell? ⟨w.heap.size, 2, none⟩ = some (.int .i64 a) ∧ w'.cell? ⟨w.heap.size, 3, none⟩ = some (.int .i64 b) ∧ w'.cell? ⟨w.heap.size, 4, none⟩ = some (.int .i64 c) ∧ w'.cell? ⟨w.heap.size, 5, none⟩ = some (.int .i64 d) ∧ w'.cell? ⟨w.heap.size, 6, none⟩ = some (.int .i64 e) ∧ w'.cell? ⟨w.heap.size, 7, none⟩ = some (.int .i64 W) ∧ w'.cell? ⟨w.heap.size, 8, none⟩ = some (.int .i64 H) ∧ w'.cell? ⟨w.heap.size, 9, none⟩ = some (x) ∧ w'.cell? ⟨w.heap.size, 10, none⟩ = some (r) ∧ w'.cell? ⟨w.heap.size, 11, none⟩ = some (y) ∧ w'.cell? ⟨w.heap.size + 1, 0, none⟩ = some (.int .i64 T) ∧ w'.cell? ⟨w.heap.size + 1, 1, none⟩ = some (.int .i64 Z) ∧ w'.cell? ⟨w.heap.size + 1, 2, none⟩ = some (u) ∧ Kp w w')) (by kernel_rfl) ?_ (fun hHeld => ?_)
    · exact s5
    refine wpAnyH_take (i := 0) (oi := ⟨some 26, _, _, _, _, _⟩) (v := ?_) rfl (by kernel_rfl) (by kernel_rfl) (by kernel_rfl) (fun _ _ _ h => h) (Or.inl ⟨by rfl, ?_⟩) (by assumption) ?_
    rotate_left
    · intro w hSw; (try dsimp only at hSw); go_simp; (all_goals with_reducible rfl)
    simp only [Act.put, List.setIfInBounds_toArray, List.set_cons_zero, List.set_cons_succ]
    refine wpAnyH_take (i := 1) (oi := ⟨some 27, _, _, _, _, _⟩) (v := ?_) rfl (by kernel_rfl) (by kernel_rfl) (by kernel_rfl) (fun _ _ _ h => h) (Or.inl ⟨by rfl, ?_⟩) (by assumption) ?_
    rotate_left
    · intro w hSw; (try dsimp only at hSw); go_simp; (all_goals with_reducible rfl)
    simp only [Act.put, List.setIfInBounds_toArray, List.set_cons_zero, List.set_cons_succ]
    refine wpAnyH_take (i := 2) (oi := ⟨some 28, _, _, _, _, _⟩) (v := ?_) rfl (by kernel_rfl) (by kernel_rfl) (by kernel_rfl) (fun _ _ _ h => h) (Or.inl ⟨by rfl, ?_⟩) (by assumption) ?_
    rotate_left
    · intro w hSw; (try dsimp only at hSw); go_simp; (all_goals with_reducible rfl)
    simp only [Act.put, List.setIfInBounds_toArray, List.set_cons_zero, List.set_cons_succ]
    refine wpAnyH_take (i := 3) (oi := ⟨some 29, _, _, _, _, _⟩) (v := ?_) rfl (by kernel_rfl) (by kernel_rfl) (by kernel_rfl) (fun _ _ _ h => h) (Or.inl ⟨by rfl, ?_⟩) (by assumption) ?_
    rotate_left
    · intro w hSw; (try dsimp only at hSw); go_simp; (all_goals with_reducible rfl)
    simp only [Act.put, List.setIfInBounds_toArray, List.set_cons_zero, List.set_cons_succ]
    refine wpAnyH_take (i := 4) (oi := ⟨some 30, _, _, _, _, _⟩) (v := ?_) rfl (by kernel_rfl) (by kernel_rfl) (by kernel_rfl) (fun _ _ _ h => h) (Or.inl ⟨by rfl, ?_⟩) (by assumption) ?_
    rotate_left
    · intro w hSw; (try dsimp only at hSw); go_simp; (all_goals with_reducible rfl)
    simp only [Act.put, List.setIfInBounds_toArray, List.set_cons_zero, List.set_cons_succ]
    refine wpAnyH_take (i := 5) (oi := ⟨some 31, _, _, _, _, _⟩) (v := ?_) rfl (by kernel_rfl) (by kernel_rfl) (by kernel_rfl) (fun _ _ _ h => h) (Or.inl ⟨by rfl, ?_⟩) (by assumption) ?_
    rotate_left
    · intro w hSw; (try dsimp only at hSw); go_simp; (all_goals with_reducible rfl)
    simp only [Act.put, List.setIfInBounds_toArray, List.set_cons_zero, List.set_cons_succ]
    refine wpAnyH_ready (rs := [6]) (by kernel_rfl) (by simp) ?_
    refine AllReadyH.cons (o := ⟨some 32, _, _, _, _, _⟩) rfl (fun K hK => ?_) AllReadyH.nil
    go_simp
    refine (CA.out _ (HS.out.keep hHeld.2.2.2.2.2.2.2.2.2.2.2.2.2.2.2)).mono ?_; rintro e6 w6 ⟨A6, c6, rfl, k6⟩; have s6 := keepx15 k6 hHeld
    go_wp2_with fail
    refine hK.out _ _ ?_ (fun hHeld => ?_)
    · (try dsimp only); (first | assumption | exact s6 | exact s5)
    clear hK K
    try simp only [Act.put, List.setIfInBounds_toArray, List.set_cons_zero, List.set_cons_succ]
    refine wpAnyH_take (i := 7) (oi := ⟨some 33, _, _, _, _, _⟩) (v := ?_) rfl (by kernel_rfl) (by kernel_rfl) (by kernel_rfl) (fun _ _ _ h => h) (Or.inl ⟨by rfl, ?_⟩) (by assumption) ?_
    rotate_left
    · intro w hSw; (try dsimp only at hSw); go_simp; (all_goals with_reducible rfl)
    simp only [Act.put, List.setIfInBounds_toArray, List.set_cons_zero, List.set_cons_succ]
    refine wpAnyH_take (i := 8) (oi := ⟨some 34, _, _, _, _, _⟩) (v := ?_) rfl (by kernel_rfl) (by kernel_rfl) (by kernel_rfl) (fun _ _ _ h => h) (Or.inl ⟨by rfl, ?_⟩) (by assumption) ?_
    rotate_left
    · intro w hSw; (try dsimp only at hSw); go_simp; (all_goals with_reducible rfl)
    simp only [Act.put, List.setIfInBounds_toArray, List.set_cons_zero, List.set_cons_succ]
    refine wpAnyH_take (i := 9) (oi := ⟨some 8, _, _, _, _, _⟩) (v := ?_) rfl (by kernel_rfl) (by kernel_rfl) (by kernel_rfl) (fun _ _ _ h => h) (Or.inl ⟨by rfl, ?_⟩) (by assumption) ?_
    rotate_left
    · intro w hSw; (try dsimp only at hSw); go_simp; (all_goals with_reducible rfl)
    simp only [Act.put, List.setIfInBounds_toArray, List.set_cons_zero, List.set_cons_succ]
    refine wpAnyH_take (i := 10) (oi := ⟨some 9, _, _, _, _, _⟩) (v := ?_) rfl (by kernel_rfl) (by kernel_rfl) (by kernel_rfl) (fun _ _ _ h => h) (Or.inl ⟨by rfl, ?_⟩) (by assumption) ?_
    rotate_left
    · intro w hSw; (try dsimp only at hSw); go_simp; (all_goals with_reducible rfl)
    simp only [Act.put, List.setIfInBounds_toArray, List.set_cons_zero, List.set_cons_succ]
    refine wpAnyH_done (by kernel_rfl) ?_ _
    go_wp2_with fail
    go_ret2
    exact ⟨rfl, hHeld.2.2.2.2.2.2.2.2.2.2.2.2.2.2.2⟩

set_option maxRecDepth 100000 in
set_option maxHeartbeats 4000000 in
theorem specStackRoom_any (At Ak : Option Addr) (nt nk ct ck : Nat) (l : List Ter) (m : List Knd) (a b c d e W H : Int) (x r y : Value) (lt lr ld : List Int) (T Z : Int) (u : Value) (us : List Uni) (sd i : Int) (w : World) (hB : BrdAt w At Ak nt nk l m x r y lt lr ld) (hS : StaAt w u us) :
    Calls Tryd.prog 18 #[bv (.slice At nt ct) (.slice Ak nk ck) a b c d e W H x r y, sv T Z u, .int .i64 sd, .int .i64 i] w fun e' w' => e' = .returned (ib (((brdOk ⟨l, m, a, b, c, d, e⟩ W H lt lr ld && staOk ⟨l, m, a, b, c, d, e⟩ W H lt T Z us) && onI W H i) && spB 0 1 sd) (roomN us a sd i)) ∧ Kp w w' := by
  cases ho : (brdOk ⟨l, m, a, b, c, d, e⟩ W H lt lr ld && staOk ⟨l, m, a, b, c, d, e⟩ W H lt T Z us) && onI W H i
  · have KA : Kp w ((w.alloc (.cells #[.slice At nt ct, .slice Ak nk ck, .int .i64 a, .int .i64 b, .int .i64 c, .int .i64 d, .int .i64 e, .int .i64 W, .int .i64 H, x, r, y] 44)).alloc (.cells #[.int .i64 T, .int .i64 Z, u] 48)) := ((Kp.refl w).alloc _).alloc _
    have s0 : ((w.alloc (.cells #[.slice At nt ct, .slice Ak nk ck, .int .i64 a, .int .i64 b, .int .i64 c, .int .i64 d, .int .i64 e, .int .i64 W, .int .i64 H, x, r, y] 44)).alloc (.cells #[.int .i64 T, .int .i64 Z, u] 48)).cell? ⟨w.heap.size, 0, none⟩ = some (.slice At nt ct) ∧ ((w.alloc (.cells #[.slice At nt ct, .slice Ak nk ck, .int .i64 a, .int .i64 b, .int .i64 c, .int .i64 d, .int .i64 e, .int .i64 W, .int .i64 H, x, r, y] 44)).alloc (.cells #[.int .i64 T, .int .i64 Z, u] 48)).cell? ⟨w.heap.size, 1, none⟩ = some (.slice Ak nk ck) ∧ ((w.alloc (.cells #[.slice At nt ct, .slice Ak nk ck, .int .i64 a, .int .i64 b, .int .i64 c, .int .i64 d, .int .i64 e, .int .i64 W, .int .i64 H, x, r, y] 44)).alloc (.cells #[.int .i64 T, .int .i64 Z, u] 48)).cell? ⟨w.heap.size, 2, none⟩ = some (.int .i64 a) ∧ ((w.alloc (.cells #[.slice At nt ct, .slice Ak nk ck, .int .i64 a, .int .i64 b, .int .i64 c, .int .i64 d, .int .i64 e, .int .i64 W, .int .i64 H, x, r, y] 44)).alloc (.cells #[.int .i64 T, .int .i64 Z, u] 48)).cell? ⟨w.heap.size, 3, none⟩ = some (.int .i64 b) ∧ ((w.alloc (.cells #[.slice At nt ct, .slice Ak nk ck, .int .i64 a, .int .i64 b, .int .i64 c, .int .i64 d, .int .i64 e, .int .i64 W, .int .i64 H, x, r, y] 44)).alloc (.cells #[.int .i64 T, .int .i64 Z, u] 48)).cell? ⟨w.heap.size, 4, none⟩ = some (.int .i64 c) ∧ ((w.alloc (.cells #[.slice At nt ct, .slice Ak nk ck, .int .i64 a, .int .i64 b, .int .i64 c, .int .i64 d, .int .i64 e, .int .i64 W, .int .i64 H, x, r, y] 44)).alloc (.cells #[.int .i64 T, .int .i64 Z, u] 48)).cell? ⟨w.heap.size, 5, none⟩ = some (.int .i64 d) ∧ ((w.alloc (.cells #[.slice At nt ct, .slice Ak nk ck, .int .i64 a, .int .i64 b, .int .i64 c, .int .i64 d, .int .i64 e, .int .i64 W, .int .i64 H, x, r, y] 44)).alloc (.cells #[.int .i64 T, .int .i64 Z, u] 48)).cell? ⟨w.heap.size, 6, none⟩ = some (.int .i64 e) ∧ ((w.alloc (.cells #[.slice At nt ct, .slice Ak nk ck, .int .i64 a, .int .i64 b, .int .i64 c, .int .i64 d, .int .i64 e, .int .i64 W, .int .i64 H, x, r, y] 44)).alloc (.cells #[.int .i64 T, .int .i64 Z, u] 48)).cell? ⟨w.heap.size, 7, none⟩ = some (.int .i64 W) ∧ ((w.alloc (.cells #[.slice At nt ct, .slice Ak nk ck, .int .i64 a, .int .i64 b, .int .i64 c, .int .i64 d, .int .i64 e, .int .i64 W, .int .i64 H, x, r, y] 44)).alloc (.cells #[.int .i64 T, .int .i64 Z, u] 48)).cell? ⟨w.heap.size, 8, none⟩ = some (.int .i64 H) ∧ ((w.alloc (.cells #[.slice At nt ct, .slice Ak nk ck, .int .i64 a, .int .i64 b, .int .i64 c, .int .i64 d, .int .i64 e, .int .i64 W, .int .i64 H, x, r, y] 44)).alloc (.cells #[.int .i64 T, .int .i64 Z, u] 48)).cell? ⟨w.heap.size, 9, none⟩ = some (x) ∧ ((w.alloc (.cells #[.slice At nt ct, .slice Ak nk ck, .int .i64 a, .int .i64 b, .int .i64 c, .int .i64 d, .int .i64 e, .int .i64 W, .int .i64 H, x, r, y] 44)).alloc (.cells #[.int .i64 T, .int .i64 Z, u] 48)).cell? ⟨w.heap.size, 10, none⟩ = some (r) ∧ ((w.alloc (.cells #[.slice At nt ct, .slice Ak nk ck, .int .i64 a, .int .i64 b, .int .i64 c, .int .i64 d, .int .i64 e, .int .i64 W, .int .i64 H, x, r, y] 44)).alloc (.cells #[.int .i64 T, .int .i64 Z, u] 48)).cell? ⟨w.heap.size, 11, none⟩ = some (y) ∧ ((w.alloc (.cells #[.slice At nt ct, .slice Ak nk ck, .int .i64 a, .int .i64 b, .int .i64 c, .int .i64 d, .int .i64 e, .int .i64 W, .int .i64 H, x, r, y] 44)).alloc (.cells #[.int .i64 T, .int .i64 Z, u] 48)).cell? ⟨w.heap.size + 1, 0, none⟩ = some (.int .i64 T) ∧ ((w.alloc (.cells #[.slice At nt ct, .slice Ak nk ck, .int .i64 a, .int .i64 b, .int .i64 c, .int .i64 d, .int .i64 e, .int .i64 W, .int .i64 H, x, r, y] 44)).alloc (.cells #[.int .i64 T, .int .i64 Z, u] 48)).cell? ⟨w.heap.size + 1, 1, none⟩ = some (.int .i64 Z) ∧ ((w.alloc (.cells #[.slice At nt ct, .slice Ak nk ck, .int .i64 a, .int .i64 b, .int .i64 c, .int .i64 d, .int .i64 e, .int .i64 W, .int .i64 H, x, r, y] 44)).alloc (.cells #[.int .i64 T, .int .i64 Z, u] 48)).cell? ⟨w.heap.size + 1, 2, none⟩ = some (u) ∧ Kp w ((w.alloc (.cells #[.slice At nt ct, .slice Ak nk ck, .int .i64 a, .int .i64 b, .int .i64 c, .int .i64 d, .int .i64 e, .int .i64 W, .int .i64 H, x, r, y] 44)).alloc (.cells #[.int .i64 T, .int .i64 Z, u] 48)) := ⟨by simp [go_sem], by simp [go_sem], by simp [go_sem], by simp [go_sem], by simp [go_sem], by simp [go_sem], by simp [go_sem], by simp [go_sem], by simp [go_sem], by simp [go_sem], by simp [go_sem], by simp [go_sem], by simp [go_sem], by simp [go_sem], by simp [go_sem], KA⟩
    have C2 := Lib.hid (sHex_any At Ak nt nk ct ck l m a b c d e W H x r y lt lr ld T Z u us i _ (hB.keep KA) (hS.keep KA))
    rw [ho] at C2
    clear hB hS ho
    go_enter Tryd.func18, Tryd.ntmps18
    go_wp2_with fail
    refine C2.out.mono ?_
    rintro e1 w1 ⟨rfl, k1⟩
    go_wp2_with fail
    go_ret2
    exact ⟨rfl, KA.trans k1⟩
  · rw [Bool.true_and]
    cases hsd : spB 0 1 sd
    · have KA : Kp w ((w.alloc (.cells #[.slice At nt ct, .slice Ak nk ck, .int .i64 a, .int .i64 b, .int .i64 c, .int .i64 d, .int .i64 e, .int .i64 W, .int .i64 H, x, r, y] 44)).alloc (.cells #[.int .i64 T, .int .i64 Z, u] 48)) := ((Kp.refl w).alloc _).alloc _
      have s0 : ((w.alloc (.cells #[.slice At nt ct, .slice Ak nk ck, .int .i64 a, .int .i64 b, .int .i64 c, .int .i64 d, .int .i64 e, .int .i64 W, .int .i64 H, x, r, y] 44)).alloc (.cells #[.int .i64 T, .int .i64 Z, u] 48)).cell? ⟨w.heap.size, 0, none⟩ = some (.slice At nt ct) ∧ ((w.alloc (.cells #[.slice At nt ct, .slice Ak nk ck, .int .i64 a, .int .i64 b, .int .i64 c, .int .i64 d, .int .i64 e, .int .i64 W, .int .i64 H, x, r, y] 44)).alloc (.cells #[.int .i64 T, .int .i64 Z, u] 48)).cell? ⟨w.heap.size, 1, none⟩ = some (.slice Ak nk ck) ∧ ((w.alloc (.cells #[.slice At nt ct, .slice Ak nk ck, .int .i64 a, .int .i64 b, .int .i64 c, .int .i64 d, .int .i64 e, .int .i64 W, .int .i64 H, x, r, y] 44)).alloc (.cells #[.int .i64 T, .int .i64 Z, u] 48)).cell? ⟨w.heap.size, 2, none⟩ = some (.int .i64 a) ∧ ((w.alloc (.cells #[.slice At nt ct, .slice Ak nk ck, .int .i64 a, .int .i64 b, .int .i64 c, .int .i64 d, .int .i64 e, .int .i64 W, .int .i64 H, x, r, y] 44)).alloc (.cells #[.int .i64 T, .int .i64 Z, u] 48)).cell? ⟨w.heap.size, 3, none⟩ = some (.int .i64 b) ∧ ((w.alloc (.cells #[.slice At nt ct, .slice Ak nk ck, .int .i64 a, .int .i64 b, .int .i64 c, .int .i64 d, .int .i64 e, .int .i64 W, .int .i64 H, x, r, y] 44)).alloc (.cells #[.int .i64 T, .int .i64 Z, u] 48)).cell? ⟨w.heap.size, 4, none⟩ = some (.int .i64 c) ∧ ((w.alloc (.cells #[.slice At nt ct, .slice Ak nk ck, .int .i64 a, .int .i64 b, .int .i64 c, .int .i64 d, .int .i64 e, .int .i64 W, .int .i64 H, x, r, y] 44)).alloc (.cells #[.int .i64 T, .int .i64 Z, u] 48)).cell? ⟨w.heap.size, 5, none⟩ = some (.int .i64 d) ∧ ((w.alloc (.cells #[.slice At nt ct, .slice Ak nk ck, .int .i64 a, .int .i64 b, .int .i64 c, .int .i64 d, .int .i64 e, .int .i64 W, .int .i64 H, x, r, y] 44)).alloc (.cells #[.int .i64 T, .int .i64 Z, u] 48)).cell? ⟨w.heap.size, 6, none⟩ = some (.int .i64 e) ∧ ((w.alloc (.cells #[.slice At nt ct, .slice Ak nk ck, .int .i64 a, .int .i64 b, .int .i64 c, .int .i64 d, .int .i64 e, .int .i64 W, .int .i64 H, x, r, y] 44)).alloc (.cells #[.int .i64 T, .int .i64 Z, u] 48)).cell? ⟨w.heap.size, 7, none⟩ = some (.int .i64 W) ∧ ((w.alloc (.cells #[.slice At nt ct, .slice Ak nk ck, .int .i64 a, .int .i64 b, .int .i64 c, .int .i64 d, .int .i64 e, .int .i64 W, .int .i64 H, x, r, y] 44)).alloc (.cells #[.int .i64 T, .int .i64 Z, u] 48)).cell? ⟨w.heap.size, 8, none⟩ = some (.int .i64 H) ∧ ((w.alloc (.cells #[.slice At nt ct, .slice Ak nk ck, .int .i64 a, .int .i64 b, .int .i64 c, .int .i64 d, .int .i64 e, .int .i64 W, .int .i64 H, x, r, y] 44)).alloc (.cells #[.int .i64 T, .int .i64 Z, u] 48)).cell? ⟨w.heap.size, 9, none⟩ = some (x) ∧ ((w.alloc (.cells #[.slice At nt ct, .slice Ak nk ck, .int .i64 a, .int .i64 b, .int .i64 c, .int .i64 d, .int .i64 e, .int .i64 W, .int .i64 H, x, r, y] 44)).alloc (.cells #[.int .i64 T, .int .i64 Z, u] 48)).cell? ⟨w.heap.size, 10, none⟩ = some (r) ∧ ((w.alloc (.cells #[.slice At nt ct, .slice Ak nk ck, .int .i64 a, .int .i64 b, .int .i64 c, .int .i64 d, .int .i64 e, .int .i64 W, .int .i64 H, x, r, y] 44)).alloc (.cells #[.int .i64 T, .int .i64 Z, u] 48)).cell? ⟨w.heap.size, 11, none⟩ = some (y) ∧ ((w.alloc (.cells #[.slice At nt ct, .slice Ak nk ck, .int .i64 a, .int .i64 b, .int .i64 c, .int .i64 d, .int .i64 e, .int .i64 W, .int .i64 H, x, r, y] 44)).alloc (.cells #[.int .i64 T, .int .i64 Z, u] 48)).cell? ⟨w.heap.size + 1, 0, none⟩ = some (.int .i64 T) ∧ ((w.alloc (.cells #[.slice At nt ct, .slice Ak nk ck, .int .i64 a, .int .i64 b, .int .i64 c, .int .i64 d, .int .i64 e, .int .i64 W, .int .i64 H, x, r, y] 44)).alloc (.cells #[.int .i64 T, .int .i64 Z, u] 48)).cell? ⟨w.heap.size + 1, 1, none⟩ = some (.int .i64 Z) ∧ ((w.alloc (.cells #[.slice At nt ct, .slice Ak nk ck, .int .i64 a, .int .i64 b, .int .i64 c, .int .i64 d, .int .i64 e, .int .i64 W, .int .i64 H, x, r, y] 44)).alloc (.cells #[.int .i64 T, .int .i64 Z, u] 48)).cell? ⟨w.heap.size + 1, 2, none⟩ = some (u) ∧ Kp w ((w.alloc (.cells #[.slice At nt ct, .slice Ak nk ck, .int .i64 a, .int .i64 b, .int .i64 c, .int .i64 d, .int .i64 e, .int .i64 W, .int .i64 H, x, r, y] 44)).alloc (.cells #[.int .i64 T, .int .i64 Z, u] 48)) := ⟨by simp [go_sem], by simp [go_sem], by simp [go_sem], by simp [go_sem], by simp [go_sem], by simp [go_sem], by simp [go_sem], by simp [go_sem], by simp [go_sem], by simp [go_sem], by simp [go_sem], by simp [go_sem], by simp [go_sem], by simp [go_sem], by simp [go_sem], KA⟩
      have C2 := Lib.hid (sHex_any At Ak nt nk ct ck l m a b c d e W H x r y lt lr ld T Z u us i _ (hB.keep KA) (hS.keep KA))
      rw [ho] at C2
      have CL : Hid (∀ w, Calls Tryd.prog 42 #[.int .i64 sd, .int .i64 0, .int .i64 1] w fun e w' => e = .returned (.bool false) ∧ w = w') := Lib.hid fun w => by
        have := l1In_sp sd 0 1 w
        rw [hsd] at this
        exact this
      clear hB hS ho hsd
      go_enter Tryd.func18, Tryd.ntmps18
      go_wp2_with fail
      refine C2.out.mono ?_
      rintro e1 w1 ⟨rfl, k1⟩
      go_wp2_with fail
      refine (CL.out _).mono ?_
      rintro e2 w2 ⟨rfl, rfl⟩
      go_wp2_with fail
      go_ret2
      exact ⟨rfl, KA.trans k1⟩
    · have h01 : sd = 0 ∨ sd = 1 := by simp [spB] at hsd; omega
      rcases h01 with rfl | rfl
      · exact specRoom_0 At Ak nt nk ct ck l m a b c d e W H x r y lt lr ld T Z u us i w hB hS ho
      · exact specRoom_1 At Ak nt nk ct ck l m a b c d e W H x r y lt lr ld T Z u us i w hB hS ho

set_option maxRecDepth 100000 in
set_option maxHeartbeats 4000000 in
theorem room_0 (At Ak : Option Addr) (nt nk ct ck : Nat) (l : List Ter) (m : List Knd) (a b c d e W H : Int) (x r y : Value) (lt lr ld : List Int) (T Z : Int) (u : Value) (us : List Uni) (i : Int) (w : World) (hs : Spans w) (ht : Tab w) (hu : SpU w) (hB : BrdAt w At Ak nt nk l m x r y lt lr ld) (hS : StaAt w u us) (ho : (brdOk ⟨l, m, a, b, c, d, e⟩ W H lt lr ld && staOk ⟨l, m, a, b, c, d, e⟩ W H lt T Z us) = true) (hon : onI W H i = true) :
    Calls Tryd.prog 19 #[bv (.slice At nt ct) (.slice Ak nk ck) a b c d e W H x r y, sv T Z u, .int .i64 0, .int .i64 i] w fun e' w' => e' = .returned (.tuple #[.int .i64 (roomN us a 0 i), .bool true]) ∧ Kp w w' := by
  have KA : Kp w ((w.alloc (.cells #[.slice At nt ct, .slice Ak nk ck, .int .i64 a, .int .i64 b, .int .i64 c, .int .i64 d, .int .i64 e, .int .i64 W, .int .i64 H, x, r, y] 44)).alloc (.cells #[.int .i64 T, .int .i64 Z, u] 48)) := ((Kp.refl w).alloc _).alloc _
  have s0 : ((w.alloc (.cells #[.slice At nt ct, .slice Ak nk ck, .int .i64 a, .int .i64 b, .int .i64 c, .int .i64 d, .int .i64 e, .int .i64 W, .int .i64 H, x, r, y] 44)).alloc (.cells #[.int .i64 T, .int .i64 Z, u] 48)).cell? ⟨w.heap.size, 0, none⟩ = some (.slice At nt ct) ∧ ((w.alloc (.cells #[.slice At nt ct, .slice Ak nk ck, .int .i64 a, .int .i64 b, .int .i64 c, .int .i64 d, .int .i64 e, .int .i64 W, .int .i64 H, x, r, y] 44)).alloc (.cells #[.int .i64 T, .int .i64 Z, u] 48)).cell? ⟨w.heap.size, 1, none⟩ = some (.slice Ak nk ck) ∧ ((w.alloc (.cells #[.slice At nt ct, .slice Ak nk ck, .int .i64 a, .int .i64 b, .int .i64 c, .int .i64 d, .int .i64 e, .int .i64 W, .int .i64 H, x, r, y] 44)).alloc (.cells #[.int .i64 T, .int .i64 Z, u] 48)).cell? ⟨w.heap.size, 2, none⟩ = some (.int .i64 a) ∧ ((w.alloc (.cells #[.slice At nt ct, .slice Ak nk ck, .int .i64 a, .int .i64 b, .int .i64 c, .int .i64 d, .int .i64 e, .int .i64 W, .int .i64 H, x, r, y] 44)).alloc (.cells #[.int .i64 T, .int .i64 Z, u] 48)).cell? ⟨w.heap.size, 3, none⟩ = some (.int .i64 b) ∧ ((w.alloc (.cells #[.slice At nt ct, .slice Ak nk ck, .int .i64 a, .int .i64 b, .int .i64 c, .int .i64 d, .int .i64 e, .int .i64 W, .int .i64 H, x, r, y] 44)).alloc (.cells #[.int .i64 T, .int .i64 Z, u] 48)).cell? ⟨w.heap.size, 4, none⟩ = some (.int .i64 c) ∧ ((w.alloc (.cells #[.slice At nt ct, .slice Ak nk ck, .int .i64 a, .int .i64 b, .int .i64 c, .int .i64 d, .int .i64 e, .int .i64 W, .int .i64 H, x, r, y] 44)).alloc (.cells #[.int .i64 T, .int .i64 Z, u] 48)).cell? ⟨w.heap.size, 5, none⟩ = some (.int .i64 d) ∧ ((w.alloc (.cells #[.slice At nt ct, .slice Ak nk ck, .int .i64 a, .int .i64 b, .int .i64 c, .int .i64 d, .int .i64 e, .int .i64 W, .int .i64 H, x, r, y] 44)).alloc (.cells #[.int .i64 T, .int .i64 Z, u] 48)).cell? ⟨w.heap.size, 6, none⟩ = some (.int .i64 e) ∧ ((w.alloc (.cells #[.slice At nt ct, .slice Ak nk ck, .int .i64 a, .int .i64 b, .int .i64 c, .int .i64 d, .int .i64 e, .int .i64 W, .int .i64 H, x, r, y] 44)).alloc (.cells #[.int .i64 T, .int .i64 Z, u] 48)).cell? ⟨w.heap.size, 7, none⟩ = some (.int .i64 W) ∧ ((w.alloc (.cells #[.slice At nt ct, .slice Ak nk ck, .int .i64 a, .int .i64 b, .int .i64 c, .int .i64 d, .int .i64 e, .int .i64 W, .int .i64 H, x, r, y] 44)).alloc (.cells #[.int .i64 T, .int .i64 Z, u] 48)).cell? ⟨w.heap.size, 8, none⟩ = some (.int .i64 H) ∧ ((w.alloc (.cells #[.slice At nt ct, .slice Ak nk ck, .int .i64 a, .int .i64 b, .int .i64 c, .int .i64 d, .int .i64 e, .int .i64 W, .int .i64 H, x, r, y] 44)).alloc (.cells #[.int .i64 T, .int .i64 Z, u] 48)).cell? ⟨w.heap.size, 9, none⟩ = some (x) ∧ ((w.alloc (.cells #[.slice At nt ct, .slice Ak nk ck, .int .i64 a, .int .i64 b, .int .i64 c, .int .i64 d, .int .i64 e, .int .i64 W, .int .i64 H, x, r, y] 44)).alloc (.cells #[.int .i64 T, .int .i64 Z, u] 48)).cell? ⟨w.heap.size, 10, none⟩ = some (r) ∧ ((w.alloc (.cells #[.slice At nt ct, .slice Ak nk ck, .int .i64 a, .int .i64 b, .int .i64 c, .int .i64 d, .int .i64 e, .int .i64 W, .int .i64 H, x, r, y] 44)).alloc (.cells #[.int .i64 T, .int .i64 Z, u] 48)).cell? ⟨w.heap.size, 11, none⟩ = some (y) ∧ ((w.alloc (.cells #[.slice At nt ct, .slice Ak nk ck, .int .i64 a, .int .i64 b, .int .i64 c, .int .i64 d, .int .i64 e, .int .i64 W, .int .i64 H, x, r, y] 44)).alloc (.cells #[.int .i64 T, .int .i64 Z, u] 48)).cell? ⟨w.heap.size + 1, 0, none⟩ = some (.int .i64 T) ∧ ((w.alloc (.cells #[.slice At nt ct, .slice Ak nk ck, .int .i64 a, .int .i64 b, .int .i64 c, .int .i64 d, .int .i64 e, .int .i64 W, .int .i64 H, x, r, y] 44)).alloc (.cells #[.int .i64 T, .int .i64 Z, u] 48)).cell? ⟨w.heap.size + 1, 1, none⟩ = some (.int .i64 Z) ∧ ((w.alloc (.cells #[.slice At nt ct, .slice Ak nk ck, .int .i64 a, .int .i64 b, .int .i64 c, .int .i64 d, .int .i64 e, .int .i64 W, .int .i64 H, x, r, y] 44)).alloc (.cells #[.int .i64 T, .int .i64 Z, u] 48)).cell? ⟨w.heap.size + 1, 2, none⟩ = some (u) ∧ ((w.alloc (.cells #[.slice At nt ct, .slice Ak nk ck, .int .i64 a, .int .i64 b, .int .i64 c, .int .i64 d, .int .i64 e, .int .i64 W, .int .i64 H, x, r, y] 44)).alloc (.cells #[.int .i64 T, .int .i64 Z, u] 48)).cell? ⟨0, 0, none⟩ = some (.int .i64 0) ∧ ((w.alloc (.cells #[.slice At nt ct, .slice Ak nk ck, .int .i64 a, .int .i64 b, .int .i64 c, .int .i64 d, .int .i64 e, .int .i64 W, .int .i64 H, x, r, y] 44)).alloc (.cells #[.int .i64 T, .int .i64 Z, u] 48)).cell? ⟨0, 1, none⟩ = some (.int .i64 1) ∧ Kp w ((w.alloc (.cells #[.slice At nt ct, .slice Ak nk ck, .int .i64 a, .int .i64 b, .int .i64 c, .int .i64 d, .int .i64 e, .int .i64 W, .int .i64 H, x, r, y] 44)).alloc (.cells #[.int .i64 T, .int .i64 Z, u] 48)) := ⟨by simp [go_sem], by simp [go_sem], by simp [go_sem], by simp [go_sem], by simp [go_sem], by simp [go_sem], by simp [go_sem], by simp [go_sem], by simp [go_sem], by simp [go_sem], by simp [go_sem], by simp [go_sem], by simp [go_sem], by simp [go_sem], by simp [go_sem], KA.cell hu.side.1, KA.cell hu.side.2, KA⟩
  have C1 := Lib.hid (isStateOn_any At Ak nt nk ct ck l m a b c d e W H x r y lt lr ld T Z u us _ (hs.keep KA) (ht.keep KA) (hu.keep KA) (hB.keep KA) (hS.keep KA))
  rw [ho] at C1
  have HS := Lib.hid hS
  have hok : brdOk ⟨l, m, a, b, c, d, e⟩ W H lt lr ld = true := by
    simp only [Bool.and_eq_true] at ho
    exact ho.1
  have hst : staOk ⟨l, m, a, b, c, d, e⟩ W H lt T Z us = true := by
    simp only [Bool.and_eq_true] at ho
    exact ho.2
  obtain ⟨p1, p2, p3, p4⟩ := mapOk_side (brdOk_map hok)
  have CIX : Hid (∀ w, Calls Tryd.prog 40 #[mp W H x r y, .int .i64 i] w fun e' w' => e' = .returned (.bool (onI W H i)) ∧ Kp w w') := Lib.hid fun w => isIndex_any W H x r y i w p1 p2 p3 p4
  have hla : 1 ≤ a ∧ a ≤ 4 := by
    have hok2 := hok
    simp only [brdOk, rulOk, limB, spB, Bool.and_eq_true, decide_eq_true_iff] at hok2
    omega
  rw [hon] at CIX
  have CH : Hid (∀ w, Calls Tryd.prog 44 #[.agg #[.int .i64 0, .int .i64 1], .int .i64 0] w fun e' w' => e' = .returned (.bool true) ∧ Kp w w') := Lib.hid fun w => by
    have := has_any 0 1 (0) w
    rw [show spB 0 1 (0) = true from rfl] at this
    exact this
  obtain ⟨_, hn12, hall, _⟩ := staOk_parts hst
  have b0 := cntS_bd us i 0 us.length
  have b1 := cntS_bd us i 1 us.length
  have CC : Hid (∀ w, StaAt w u us → Calls Tryd.prog 41 #[sv T Z u, .int .i64 i] w fun e w' => e = .returned (.agg #[.int .i64 (cntS us i 0 us.length), .int .i64 (cntS us i 1 us.length)]) ∧ Kp w w') := Lib.hid fun w h => countsAt_any T Z u us i w h (fun x hx => (uniOk_side (hall x hx)).1) hn12
  have ER : roomN us a 0 i = if 0 < cntS us i 1 us.length then 0 else a - cntS us i 0 us.length := roomN_eq rfl rfl (by omega)
  rw [ER]
  generalize cntS us i 0 us.length = c0 at CC b0 ER ⊢
  generalize cntS us i 1 us.length = c1 at CC b1 ER ⊢
  have CO : Hid (∀ w, Calls Tryd.prog 45 #[.int .i64 0] w fun e w' => e = .returned (.int .i64 1) ∧ w = w') := Lib.hid fun w => otherSide_any 0 w (by omega)
  have ew : IntKind.i64.wrap (a - c0) = a - c0 := IntWalk.i64_in _ (by omega)
  by_cases hz : 0 < c1
  · rw [if_pos hz]
    have hz' : decide (0 < c1) = true := decide_eq_true hz
    clear hs ht hu hB hS ho hon hok hst p1 p2 p3 p4 hall ER hla b0 b1
    go_enter Tryd.func19, Tryd.ntmps19
    go_wp2_with fail
    refine C1.out.mono ?_
    rintro e1 w1 ⟨rfl, k1⟩
    have s1 := keepx17 k1 s0
    clear s0 k1
    go_wp2_with fail
    refine (CH.out _).mono ?_
    rintro e2 w2 ⟨rfl, k2⟩
    have s2 := keepx17 k2 s1
    clear s1 k2
    go_wp2_with fail
    refine (CIX.out _).mono ?_
    rintro e3 w3 ⟨rfl, k3⟩
    have s3 := keepx17 k3 s2
    clear s2 k3
    go_wp2_with fail
    refine (CC.out _ (HS.out.keep s3.2.2.2.2.2.2.2.2.2.2.2.2.2.2.2.2.2)).mono ?_
    rintro e4 w4 ⟨rfl, k4⟩
    have s4 := keepx17 k4 s3
    clear s3 k4
    go_wp2_with fail
    refine (CO.out _).mono ?_
    rintro e5 w5 ⟨rfl, rfl⟩
    go_wp2_with fail
    go_ret2
    exact ⟨rfl, s4.2.2.2.2.2.2.2.2.2.2.2.2.2.2.2.2.2.alloc _⟩
  · rw [if_neg hz]
    have hz' : decide (0 < c1) = false := decide_eq_false hz
    clear hs ht hu hB hS ho hon hok hst p1 p2 p3 p4 hall ER
    go_enter Tryd.func19, Tryd.ntmps19
    go_wp2_with fail
    refine C1.out.mono ?_
    rintro e1 w1 ⟨rfl, k1⟩
    have s1 := keepx17 k1 s0
    clear s0 k1
    go_wp2_with fail
    refine (CH.out _).mono ?_
    rintro e2 w2 ⟨rfl, k2⟩
    have s2 := keepx17 k2 s1
    clear s1 k2
    go_wp2_with fail
    refine (CIX.out _).mono ?_
    rintro e3 w3 ⟨rfl, k3⟩
    have s3 := keepx17 k3 s2
    clear s2 k3
    go_wp2_with fail
    refine (CC.out _ (HS.out.keep s3.2.2.2.2.2.2.2.2.2.2.2.2.2.2.2.2.2)).mono ?_
    rintro e4 w4 ⟨rfl, k4⟩
    have s4 := keepx17 k4 s3
    clear s3 k4
    have kbx : Kp w4 (w4.alloc (.cells #[.int .i64 c0, .int .i64 c1] 74)) := (Kp.refl w4).alloc _
    have s6 : (w4.alloc (.cells #[.int .i64 c0, .int .i64 c1] 74)).cell? ⟨w.heap.size, 0, none⟩ = some (.slice At nt ct) ∧ (w4.alloc (.cells #[.int .i64 c0, .int .i64 c1] 74)).cell? ⟨w.heap.size, 1, none⟩ = some (.slice Ak nk ck) ∧ (w4.alloc (.cells #[.int .i64 c0, .int .i64 c1] 74)).cell? ⟨w.heap.size, 2, none⟩ = some (.int .i64 a) ∧ (w4.alloc (.cells #[.int .i64 c0, .int .i64 c1] 74)).cell? ⟨w.heap.size, 3, none⟩ = some (.int .i64 b) ∧ (w4.alloc (.cells #[.int .i64 c0, .int .i64 c1] 74)).cell? ⟨w.heap.size, 4, none⟩ = some (.int .i64 c) ∧ (w4.alloc (.cells #[.int .i64 c0, .int .i64 c1] 74)).cell? ⟨w.heap.size, 5, none⟩ = some (.int .i64 d) ∧ (w4.alloc (.cells #[.int .i64 c0, .int .i64 c1] 74)).cell? ⟨w.heap.size, 6, none⟩ = some (.int .i64 e) ∧ (w4.alloc (.cells #[.int .i64 c0, .int .i64 c1] 74)).cell? ⟨w.heap.size, 7, none⟩ = some (.int .i64 W) ∧ (w4.alloc (.cells #[.int .i64 c0, .int .i64 c1] 74)).cell? ⟨w.heap.size, 8, none⟩ = some (.int .i64 H) ∧ (w4.alloc (.cells #[.int .i64 c0, .int .i64 c1] 74)).cell? ⟨w.heap.size, 9, none⟩ = some (x) ∧ (w4.alloc (.cells #[.int .i64 c0, .int .i64 c1] 74)).cell? ⟨w.heap.size, 10, none⟩ = some (r) ∧ (w4.alloc (.cells #[.int .i64 c0, .int .i64 c1] 74)).cell? ⟨w.heap.size, 11, none⟩ = some (y) ∧ (w4.alloc (.cells #[.int .i64 c0, .int .i64 c1] 74)).cell? ⟨w.heap.size + 1, 0, none⟩ = some (.int .i64 T) ∧ (w4.alloc (.cells #[.int .i64 c0, .int .i64 c1] 74)).cell? ⟨w.heap.size + 1, 1, none⟩ = some (.int .i64 Z) ∧ (w4.alloc (.cells #[.int .i64 c0, .int .i64 c1] 74)).cell? ⟨w.heap.size + 1, 2, none⟩ = some (u) ∧ (w4.alloc (.cells #[.int .i64 c0, .int .i64 c1] 74)).cell? ⟨0, 0, none⟩ = some (.int .i64 0) ∧ (w4.alloc (.cells #[.int .i64 c0, .int .i64 c1] 74)).cell? ⟨0, 1, none⟩ = some (.int .i64 1) ∧ (w4.alloc (.cells #[.int .i64 c0, .int .i64 c1] 74)).cell? ⟨w4.heap.size, 0, none⟩ = some (.int .i64 c0) ∧ (w4.alloc (.cells #[.int .i64 c0, .int .i64 c1] 74)).cell? ⟨w4.heap.size, 1, none⟩ = some (.int .i64 c1) ∧ Kp w (w4.alloc (.cells #[.int .i64 c0, .int .i64 c1] 74)) := ⟨kbx.cell s4.1, kbx.cell s4.2.1, kbx.cell s4.2.2.1, kbx.cell s4.2.2.2.1, kbx.cell s4.2.2.2.2.1, kbx.cell s4.2.2.2.2.2.1, kbx.cell s4.2.2.2.2.2.2.1, kbx.cell s4.2.2.2.2.2.2.2.1, kbx.cell s4.2.2.2.2.2.2.2.2.1, kbx.cell s4.2.2.2.2.2.2.2.2.2.1, kbx.cell s4.2.2.2.2.2.2.2.2.2.2.1, kbx.cell s4.2.2.2.2.2.2.2.2.2.2.2.1, kbx.cell s4.2.2.2.2.2.2.2.2.2.2.2.2.1, kbx.cell s4.2.2.2.2.2.2.2.2.2.2.2.2.2.1, kbx.cell s4.2.2.2.2.2.2.2.2.2.2.2.2.2.2.1, kbx.cell s4.2.2.2.2.2.2.2.2.2.2.2.2.2.2.2.1, kbx.cell s4.2.2.2.2.2.2.2.2.2.2.2.2.2.2.2.2.1, by simp [go_sem], by simp [go_sem], s4.2.2.2.2.2.2.2.2.2.2.2.2.2.2.2.2.2.trans kbx⟩
    clear s4 kbx
    go_wp2_with fail
    refine (CO.out _).mono ?_
    rintro e5 w5 ⟨rfl, rfl⟩
    go_wp2_with fail
    have s7 := drewx19 s6
    refine wp_region_held_drew (S := (fun w' => w'.cell? ⟨w.heap.size, 0, none⟩ = some (.slice At nt ct) ∧ w'.cell? ⟨w.heap.size, 1, none⟩ = some (.slice Ak nk ck) ∧ w'.cell? ⟨w.heap.size, 2, none⟩ = some (.int .i64 a) ∧ w'.cell? ⟨w.heap.size, 3, none⟩ = some (.int .i64 b) ∧ w'.cell? ⟨w.heap.size, 4, none⟩ = some (.int .i64 c) ∧ w'.cell? ⟨w.heap.size, 5, none⟩ = some (.int .i64 d) ∧ w'.cell? ⟨w.heap.size, 6, none⟩ = some (.int .i64 e) ∧ w'.cell? ⟨w.heap.size, 7, none⟩ = some (.int .i64 W) ∧ w'.cell? ⟨w.heap.size, 8, none⟩ = some (.int .i64 H) ∧ w'.cell? ⟨w.heap.size, 9, none⟩ = some (x) ∧ w'.cell? ⟨w.heap.size, 10, none⟩ = some (r) ∧ w'.cell? ⟨w.heap.size, 11, none⟩ = some (y) ∧ w'.cell? ⟨w.heap.size + 1, 0, none⟩ = some (.int .i64 T) ∧ w'.cell? ⟨w.heap.size + 1, 1, none⟩ = some (.int .i64 Z) ∧ w'.cell? ⟨w.heap.size + 1, 2, none⟩ = some (u) ∧ w'.cell? ⟨0, 0, none⟩ = some (.int .i64 0) ∧ w'.cell? ⟨0, 1, none⟩ = some (.int .i64 1) ∧ w'.cell? ⟨w4.heap.size, 0, none⟩ = some (.int .i64 c0) ∧ w'.cell? ⟨w4.heap.size, 1, none⟩ = some (.int .i64 c1) ∧ Kp w w')) (by kernel_rfl) ?_ (fun hHeld => ?_)
    · exact s7
    refine wpAnyH_take (i := 0) (oi := ⟨some 36, _, _, _, _, _⟩) (v := ?_) rfl (by kernel_rfl) (by kernel_rfl) (by kernel_rfl) (fun _ _ _ h => h) (Or.inl ⟨by rfl, ?_⟩) (by assumption) ?_
    rotate_left
    · intro w hSw; (try dsimp only at hSw); go_simp; (all_goals with_reducible rfl)
    simp only [Act.put, List.setIfInBounds_toArray, List.set_cons_zero, List.set_cons_succ]
    refine wpAnyH_take (i := 1) (oi := ⟨some 37, _, _, _, _, _⟩) (v := ?_) rfl (by kernel_rfl) (by kernel_rfl) (by kernel_rfl) (fun _ _ _ h => h) (Or.inl ⟨by rfl, ?_⟩) (by assumption) ?_
    rotate_left
    · intro w hSw; (try dsimp only at hSw); go_simp; (all_goals with_reducible rfl)
    simp only [Act.put, List.setIfInBounds_toArray, List.set_cons_zero, List.set_cons_succ]
    refine wpAnyH_take (i := 2) (oi := ⟨some 38, _, _, _, _, _⟩) (v := ?_) rfl (by kernel_rfl) (by kernel_rfl) (by kernel_rfl) (fun _ _ _ h => h) (Or.inl ⟨by rfl, ?_⟩) (by assumption) ?_
    rotate_left
    · intro w hSw; (try dsimp only at hSw); go_simp; (all_goals with_reducible rfl)
    simp only [Act.put, List.setIfInBounds_toArray, List.set_cons_zero, List.set_cons_succ]
    refine wpAnyH_take (i := 3) (oi := ⟨some 39, _, _, _, _, _⟩) (v := ?_) rfl (by kernel_rfl) (by kernel_rfl) (by kernel_rfl) (fun _ _ _ h => h) (Or.inl ⟨by rfl, ?_⟩) (by assumption) ?_
    rotate_left
    · intro w hSw; (try dsimp only at hSw); go_simp; (all_goals with_reducible rfl)
    simp only [Act.put, List.setIfInBounds_toArray, List.set_cons_zero, List.set_cons_succ]
    refine wpAnyH_take (i := 4) (oi := ⟨some 40, _, _, _, _, _⟩) (v := ?_) rfl (by kernel_rfl) (by kernel_rfl) (by kernel_rfl) (fun _ _ _ h => h) (Or.inl ⟨by rfl, ?_⟩) (by assumption) ?_
    rotate_left
    · intro w hSw; (try dsimp only at hSw); go_simp; (all_goals with_reducible rfl)
    simp only [Act.put, List.setIfInBounds_toArray, List.set_cons_zero, List.set_cons_succ]
    refine wpAnyH_take (i := 5) (oi := ⟨some 41, _, _, _, _, _⟩) (v := ?_) rfl (by kernel_rfl) (by kernel_rfl) (by kernel_rfl) (fun _ _ _ h => h) (Or.inl ⟨by rfl, ?_⟩) (by assumption) ?_
    rotate_left
    · intro w hSw; (try dsimp only at hSw); go_simp; (all_goals with_reducible rfl)
    simp only [Act.put, List.setIfInBounds_toArray, List.set_cons_zero, List.set_cons_succ]
    refine wpAnyH_take (i := 6) (oi := ⟨some 42, _, _, _, _, _⟩) (v := ?_) rfl (by kernel_rfl) (by kernel_rfl) (by kernel_rfl) (fun _ _ _ h => h) (Or.inl ⟨by rfl, ?_⟩) (by assumption) ?_
    rotate_left
    · intro w hSw; (try dsimp only at hSw); go_simp; (all_goals with_reducible rfl)
    simp only [Act.put, List.setIfInBounds_toArray, List.set_cons_zero, List.set_cons_succ]
    refine wpAnyH_take (i := 7) (oi := ⟨some 8, _, _, _, _, _⟩) (v := ?_) rfl (by kernel_rfl) (by kernel_rfl) (by kernel_rfl) (fun _ _ _ h => h) (Or.inl ⟨by rfl, ?_⟩) (by assumption) ?_
    rotate_left
    · intro w hSw; (try dsimp only at hSw); go_simp; (all_goals with_reducible rfl)
    simp only [Act.put, List.setIfInBounds_toArray, List.set_cons_zero, List.set_cons_succ]
    refine wpAnyH_take (i := 8) (oi := ⟨some 9, _, _, _, _, _⟩) (v := ?_) rfl (by kernel_rfl) (by kernel_rfl) (by kernel_rfl) (fun _ _ _ h => h) (Or.inl ⟨by rfl, ?_⟩) (by assumption) ?_
    rotate_left
    · intro w hSw; (try dsimp only at hSw); go_simp; (all_goals with_reducible rfl)
    simp only [Act.put, List.setIfInBounds_toArray, List.set_cons_zero, List.set_cons_succ]
    refine wpAnyH_done (by kernel_rfl) ?_ _
    go_wp2_with fail
    go_ret2
    exact ⟨rfl, hHeld.2.2.2.2.2.2.2.2.2.2.2.2.2.2.2.2.2.2.2⟩

set_option maxRecDepth 100000 in
set_option maxHeartbeats 4000000 in
theorem room_1 (At Ak : Option Addr) (nt nk ct ck : Nat) (l : List Ter) (m : List Knd) (a b c d e W H : Int) (x r y : Value) (lt lr ld : List Int) (T Z : Int) (u : Value) (us : List Uni) (i : Int) (w : World) (hs : Spans w) (ht : Tab w) (hu : SpU w) (hB : BrdAt w At Ak nt nk l m x r y lt lr ld) (hS : StaAt w u us) (ho : (brdOk ⟨l, m, a, b, c, d, e⟩ W H lt lr ld && staOk ⟨l, m, a, b, c, d, e⟩ W H lt T Z us) = true) (hon : onI W H i = true) :
    Calls Tryd.prog 19 #[bv (.slice At nt ct) (.slice Ak nk ck) a b c d e W H x r y, sv T Z u, .int .i64 1, .int .i64 i] w fun e' w' => e' = .returned (.tuple #[.int .i64 (roomN us a 1 i), .bool true]) ∧ Kp w w' := by
  have KA : Kp w ((w.alloc (.cells #[.slice At nt ct, .slice Ak nk ck, .int .i64 a, .int .i64 b, .int .i64 c, .int .i64 d, .int .i64 e, .int .i64 W, .int .i64 H, x, r, y] 44)).alloc (.cells #[.int .i64 T, .int .i64 Z, u] 48)) := ((Kp.refl w).alloc _).alloc _
  have s0 : ((w.alloc (.cells #[.slice At nt ct, .slice Ak nk ck, .int .i64 a, .int .i64 b, .int .i64 c, .int .i64 d, .int .i64 e, .int .i64 W, .int .i64 H, x, r, y] 44)).alloc (.cells #[.int .i64 T, .int .i64 Z, u] 48)).cell? ⟨w.heap.size, 0, none⟩ = some (.slice At nt ct) ∧ ((w.alloc (.cells #[.slice At nt ct, .slice Ak nk ck, .int .i64 a, .int .i64 b, .int .i64 c, .int .i64 d, .int .i64 e, .int .i64 W, .int .i64 H, x, r, y] 44)).alloc (.cells #[.int .i64 T, .int .i64 Z, u] 48)).cell? ⟨w.heap.size, 1, none⟩ = some (.slice Ak nk ck) ∧ ((w.alloc (.cells #[.slice At nt ct, .slice Ak nk ck, .int .i64 a, .int .i64 b, .int .i64 c, .int .i64 d, .int .i64 e, .int .i64 W, .int .i64 H, x, r, y] 44)).alloc (.cells #[.int .i64 T, .int .i64 Z, u] 48)).cell? ⟨w.heap.size, 2, none⟩ = some (.int .i64 a) ∧ ((w.alloc (.cells #[.slice At nt ct, .slice Ak nk ck, .int .i64 a, .int .i64 b, .int .i64 c, .int .i64 d, .int .i64 e, .int .i64 W, .int .i64 H, x, r, y] 44)).alloc (.cells #[.int .i64 T, .int .i64 Z, u] 48)).cell? ⟨w.heap.size, 3, none⟩ = some (.int .i64 b) ∧ ((w.alloc (.cells #[.slice At nt ct, .slice Ak nk ck, .int .i64 a, .int .i64 b, .int .i64 c, .int .i64 d, .int .i64 e, .int .i64 W, .int .i64 H, x, r, y] 44)).alloc (.cells #[.int .i64 T, .int .i64 Z, u] 48)).cell? ⟨w.heap.size, 4, none⟩ = some (.int .i64 c) ∧ ((w.alloc (.cells #[.slice At nt ct, .slice Ak nk ck, .int .i64 a, .int .i64 b, .int .i64 c, .int .i64 d, .int .i64 e, .int .i64 W, .int .i64 H, x, r, y] 44)).alloc (.cells #[.int .i64 T, .int .i64 Z, u] 48)).cell? ⟨w.heap.size, 5, none⟩ = some (.int .i64 d) ∧ ((w.alloc (.cells #[.slice At nt ct, .slice Ak nk ck, .int .i64 a, .int .i64 b, .int .i64 c, .int .i64 d, .int .i64 e, .int .i64 W, .int .i64 H, x, r, y] 44)).alloc (.cells #[.int .i64 T, .int .i64 Z, u] 48)).cell? ⟨w.heap.size, 6, none⟩ = some (.int .i64 e) ∧ ((w.alloc (.cells #[.slice At nt ct, .slice Ak nk ck, .int .i64 a, .int .i64 b, .int .i64 c, .int .i64 d, .int .i64 e, .int .i64 W, .int .i64 H, x, r, y] 44)).alloc (.cells #[.int .i64 T, .int .i64 Z, u] 48)).cell? ⟨w.heap.size, 7, none⟩ = some (.int .i64 W) ∧ ((w.alloc (.cells #[.slice At nt ct, .slice Ak nk ck, .int .i64 a, .int .i64 b, .int .i64 c, .int .i64 d, .int .i64 e, .int .i64 W, .int .i64 H, x, r, y] 44)).alloc (.cells #[.int .i64 T, .int .i64 Z, u] 48)).cell? ⟨w.heap.size, 8, none⟩ = some (.int .i64 H) ∧ ((w.alloc (.cells #[.slice At nt ct, .slice Ak nk ck, .int .i64 a, .int .i64 b, .int .i64 c, .int .i64 d, .int .i64 e, .int .i64 W, .int .i64 H, x, r, y] 44)).alloc (.cells #[.int .i64 T, .int .i64 Z, u] 48)).cell? ⟨w.heap.size, 9, none⟩ = some (x) ∧ ((w.alloc (.cells #[.slice At nt ct, .slice Ak nk ck, .int .i64 a, .int .i64 b, .int .i64 c, .int .i64 d, .int .i64 e, .int .i64 W, .int .i64 H, x, r, y] 44)).alloc (.cells #[.int .i64 T, .int .i64 Z, u] 48)).cell? ⟨w.heap.size, 10, none⟩ = some (r) ∧ ((w.alloc (.cells #[.slice At nt ct, .slice Ak nk ck, .int .i64 a, .int .i64 b, .int .i64 c, .int .i64 d, .int .i64 e, .int .i64 W, .int .i64 H, x, r, y] 44)).alloc (.cells #[.int .i64 T, .int .i64 Z, u] 48)).cell? ⟨w.heap.size, 11, none⟩ = some (y) ∧ ((w.alloc (.cells #[.slice At nt ct, .slice Ak nk ck, .int .i64 a, .int .i64 b, .int .i64 c, .int .i64 d, .int .i64 e, .int .i64 W, .int .i64 H, x, r, y] 44)).alloc (.cells #[.int .i64 T, .int .i64 Z, u] 48)).cell? ⟨w.heap.size + 1, 0, none⟩ = some (.int .i64 T) ∧ ((w.alloc (.cells #[.slice At nt ct, .slice Ak nk ck, .int .i64 a, .int .i64 b, .int .i64 c, .int .i64 d, .int .i64 e, .int .i64 W, .int .i64 H, x, r, y] 44)).alloc (.cells #[.int .i64 T, .int .i64 Z, u] 48)).cell? ⟨w.heap.size + 1, 1, none⟩ = some (.int .i64 Z) ∧ ((w.alloc (.cells #[.slice At nt ct, .slice Ak nk ck, .int .i64 a, .int .i64 b, .int .i64 c, .int .i64 d, .int .i64 e, .int .i64 W, .int .i64 H, x, r, y] 44)).alloc (.cells #[.int .i64 T, .int .i64 Z, u] 48)).cell? ⟨w.heap.size + 1, 2, none⟩ = some (u) ∧ ((w.alloc (.cells #[.slice At nt ct, .slice Ak nk ck, .int .i64 a, .int .i64 b, .int .i64 c, .int .i64 d, .int .i64 e, .int .i64 W, .int .i64 H, x, r, y] 44)).alloc (.cells #[.int .i64 T, .int .i64 Z, u] 48)).cell? ⟨0, 0, none⟩ = some (.int .i64 0) ∧ ((w.alloc (.cells #[.slice At nt ct, .slice Ak nk ck, .int .i64 a, .int .i64 b, .int .i64 c, .int .i64 d, .int .i64 e, .int .i64 W, .int .i64 H, x, r, y] 44)).alloc (.cells #[.int .i64 T, .int .i64 Z, u] 48)).cell? ⟨0, 1, none⟩ = some (.int .i64 1) ∧ Kp w ((w.alloc (.cells #[.slice At nt ct, .slice Ak nk ck, .int .i64 a, .int .i64 b, .int .i64 c, .int .i64 d, .int .i64 e, .int .i64 W, .int .i64 H, x, r, y] 44)).alloc (.cells #[.int .i64 T, .int .i64 Z, u] 48)) := ⟨by simp [go_sem], by simp [go_sem], by simp [go_sem], by simp [go_sem], by simp [go_sem], by simp [go_sem], by simp [go_sem], by simp [go_sem], by simp [go_sem], by simp [go_sem], by simp [go_sem], by simp [go_sem], by simp [go_sem], by simp [go_sem], by simp [go_sem], KA.cell hu.side.1, KA.cell hu.side.2, KA⟩
  have C1 := Lib.hid (isStateOn_any At Ak nt nk ct ck l m a b c d e W H x r y lt lr ld T Z u us _ (hs.keep KA) (ht.keep KA) (hu.keep KA) (hB.keep KA) (hS.keep KA))
  rw [ho] at C1
  have HS := Lib.hid hS
  have hok : brdOk ⟨l, m, a, b, c, d, e⟩ W H lt lr ld = true := by
    simp only [Bool.and_eq_true] at ho
    exact ho.1
  have hst : staOk ⟨l, m, a, b, c, d, e⟩ W H lt T Z us = true := by
    simp only [Bool.and_eq_true] at ho
    exact ho.2
  obtain ⟨p1, p2, p3, p4⟩ := mapOk_side (brdOk_map hok)
  have CIX : Hid (∀ w, Calls Tryd.prog 40 #[mp W H x r y, .int .i64 i] w fun e' w' => e' = .returned (.bool (onI W H i)) ∧ Kp w w') := Lib.hid fun w => isIndex_any W H x r y i w p1 p2 p3 p4
  have hla : 1 ≤ a ∧ a ≤ 4 := by
    have hok2 := hok
    simp only [brdOk, rulOk, limB, spB, Bool.and_eq_true, decide_eq_true_iff] at hok2
    omega
  rw [hon] at CIX
  have CH : Hid (∀ w, Calls Tryd.prog 44 #[.agg #[.int .i64 0, .int .i64 1], .int .i64 1] w fun e' w' => e' = .returned (.bool true) ∧ Kp w w') := Lib.hid fun w => by
    have := has_any 0 1 (1) w
    rw [show spB 0 1 (1) = true from rfl] at this
    exact this
  obtain ⟨_, hn12, hall, _⟩ := staOk_parts hst
  have b0 := cntS_bd us i 0 us.length
  have b1 := cntS_bd us i 1 us.length
  have CC : Hid (∀ w, StaAt w u us → Calls Tryd.prog 41 #[sv T Z u, .int .i64 i] w fun e w' => e = .returned (.agg #[.int .i64 (cntS us i 0 us.length), .int .i64 (cntS us i 1 us.length)]) ∧ Kp w w') := Lib.hid fun w h => countsAt_any T Z u us i w h (fun x hx => (uniOk_side (hall x hx)).1) hn12
  have ER : roomN us a 1 i = if 0 < cntS us i 0 us.length then 0 else a - cntS us i 1 us.length := roomN_eq rfl rfl (by omega)
  rw [ER]
  generalize cntS us i 0 us.length = c0 at CC b0 ER ⊢
  generalize cntS us i 1 us.length = c1 at CC b1 ER ⊢
  have CO : Hid (∀ w, Calls Tryd.prog 45 #[.int .i64 1] w fun e w' => e = .returned (.int .i64 0) ∧ w = w') := Lib.hid fun w => otherSide_any 1 w (by omega)
  have ew : IntKind.i64.wrap (a - c1) = a - c1 := IntWalk.i64_in _ (by omega)
  by_cases hz : 0 < c0
  · rw [if_pos hz]
    have hz' : decide (0 < c0) = true := decide_eq_true hz
    clear hs ht hu hB hS ho hon hok hst p1 p2 p3 p4 hall ER hla b0 b1
    go_enter Tryd.func19, Tryd.ntmps19
    go_wp2_with fail
    refine C1.out.mono ?_
    rintro e1 w1 ⟨rfl, k1⟩
    have s1 := keepx17 k1 s0
    clear s0 k1
    go_wp2_with fail
    refine (CH.out _).mono ?_
    rintro e2 w2 ⟨rfl, k2⟩
    have s2 := keepx17 k2 s1
    clear s1 k2
    go_wp2_with fail
    refine (CIX.out _).mono ?_
    rintro e3 w3 ⟨rfl, k3⟩
    have s3 := keepx17 k3 s2
    clear s2 k3
    go_wp2_with fail
    refine (CC.out _ (HS.out.keep s3.2.2.2.2.2.2.2.2.2.2.2.2.2.2.2.2.2)).mono ?_
    rintro e4 w4 ⟨rfl, k4⟩
    have s4 := keepx17 k4 s3
    clear s3 k4
    go_wp2_with fail
    refine (CO.out _).mono ?_
    rintro e5 w5 ⟨rfl, rfl⟩
    go_wp2_with fail
    go_ret2
    exact ⟨rfl, s4.2.2.2.2.2.2.2.2.2.2.2.2.2.2.2.2.2.alloc _⟩
  · rw [if_neg hz]
    have hz' : decide (0 < c0) = false := decide_eq_false hz
    clear hs ht hu hB hS ho hon hok hst p1 p2 p3 p4 hall ER
    go_enter Tryd.func19, Tryd.ntmps19
    go_wp2_with fail
    refine C1.out.mono ?_
    rintro e1 w1 ⟨rfl, k1⟩
    have s1 := keepx17 k1 s0
    clear s0 k1
    go_wp2_with fail
    refine (CH.out _).mono ?_
    rintro e2 w2 ⟨rfl, k2⟩
    have s2 := keepx17 k2 s1
    clear s1 k2
    go_wp2_with fail
    refine (CIX.out _).mono ?_
    rintro e3 w3 ⟨rfl, k3⟩
    have s3 := keepx17 k3 s2
    clear s2 k3
    go_wp2_with fail
    refine (CC.out _ (HS.out.keep s3.2.2.2.2.2.2.2.2.2.2.2.2.2.2.2.2.2)).mono ?_
    rintro e4 w4 ⟨rfl, k4⟩
    have s4 := keepx17 k4 s3
    clear s3 k4
    have kbx : Kp w4 (w4.alloc (.cells #[.int .i64 c0, .int .i64 c1] 74)) := (Kp.refl w4).alloc _
    have s6 : (w4.alloc (.cells #[.int .i64 c0, .int .i64 c1] 74)).cell? ⟨w.heap.size, 0, none⟩ = some (.slice At nt ct) ∧ (w4.alloc (.cells #[.int .i64 c0, .int .i64 c1] 74)).cell? ⟨w.heap.size, 1, none⟩ = some (.slice Ak nk ck) ∧ (w4.alloc (.cells #[.int .i64 c0, .int .i64 c1] 74)).cell? ⟨w.heap.size, 2, none⟩ = some (.int .i64 a) ∧ (w4.alloc (.cells #[.int .i64 c0, .int .i64 c1] 74)).cell? ⟨w.heap.size, 3, none⟩ = some (.int .i64 b) ∧ (w4.alloc (.cells #[.int .i64 c0, .int .i64 c1] 74)).cell? ⟨w.heap.size, 4, none⟩ = some (.int .i64 c) ∧ (w4.alloc (.cells #[.int .i64 c0, .int .i64 c1] 74)).cell? ⟨w.heap.size, 5, none⟩ = some (.int .i64 d) ∧ (w4.alloc (.cells #[.int .i64 c0, .int .i64 c1] 74)).cell? ⟨w.heap.size, 6, none⟩ = some (.int .i64 e) ∧ (w4.alloc (.cells #[.int .i64 c0, .int .i64 c1] 74)).cell? ⟨w.heap.size, 7, none⟩ = some (.int .i64 W) ∧ (w4.alloc (.cells #[.int .i64 c0, .int .i64 c1] 74)).cell? ⟨w.heap.size, 8, none⟩ = some (.int .i64 H) ∧ (w4.alloc (.cells #[.int .i64 c0, .int .i64 c1] 74)).cell? ⟨w.heap.size, 9, none⟩ = some (x) ∧ (w4.alloc (.cells #[.int .i64 c0, .int .i64 c1] 74)).cell? ⟨w.heap.size, 10, none⟩ = some (r) ∧ (w4.alloc (.cells #[.int .i64 c0, .int .i64 c1] 74)).cell? ⟨w.heap.size, 11, none⟩ = some (y) ∧ (w4.alloc (.cells #[.int .i64 c0, .int .i64 c1] 74)).cell? ⟨w.heap.size + 1, 0, none⟩ = some (.int .i64 T) ∧ (w4.alloc (.cells #[.int .i64 c0, .int .i64 c1] 74)).cell? ⟨w.heap.size + 1, 1, none⟩ = some (.int .i64 Z) ∧ (w4.alloc (.cells #[.int .i64 c0, .int .i64 c1] 74)).cell? ⟨w.heap.size + 1, 2, none⟩ = some (u) ∧ (w4.alloc (.cells #[.int .i64 c0, .int .i64 c1] 74)).cell? ⟨0, 0, none⟩ = some (.int .i64 0) ∧ (w4.alloc (.cells #[.int .i64 c0, .int .i64 c1] 74)).cell? ⟨0, 1, none⟩ = some (.int .i64 1) ∧ (w4.alloc (.cells #[.int .i64 c0, .int .i64 c1] 74)).cell? ⟨w4.heap.size, 0, none⟩ = some (.int .i64 c0) ∧ (w4.alloc (.cells #[.int .i64 c0, .int .i64 c1] 74)).cell? ⟨w4.heap.size, 1, none⟩ = some (.int .i64 c1) ∧ Kp w (w4.alloc (.cells #[.int .i64 c0, .int .i64 c1] 74)) := ⟨kbx.cell s4.1, kbx.cell s4.2.1, kbx.cell s4.2.2.1, kbx.cell s4.2.2.2.1, kbx.cell s4.2.2.2.2.1, kbx.cell s4.2.2.2.2.2.1, kbx.cell s4.2.2.2.2.2.2.1, kbx.cell s4.2.2.2.2.2.2.2.1, kbx.cell s4.2.2.2.2.2.2.2.2.1, kbx.cell s4.2.2.2.2.2.2.2.2.2.1, kbx.cell s4.2.2.2.2.2.2.2.2.2.2.1, kbx.cell s4.2.2.2.2.2.2.2.2.2.2.2.1, kbx.cell s4.2.2.2.2.2.2.2.2.2.2.2.2.1, kbx.cell s4.2.2.2.2.2.2.2.2.2.2.2.2.2.1, kbx.cell s4.2.2.2.2.2.2.2.2.2.2.2.2.2.2.1, kbx.cell s4.2.2.2.2.2.2.2.2.2.2.2.2.2.2.2.1, kbx.cell s4.2.2.2.2.2.2.2.2.2.2.2.2.2.2.2.2.1, by simp [go_sem], by simp [go_sem], s4.2.2.2.2.2.2.2.2.2.2.2.2.2.2.2.2.2.trans kbx⟩
    clear s4 kbx
    go_wp2_with fail
    refine (CO.out _).mono ?_
    rintro e5 w5 ⟨rfl, rfl⟩
    go_wp2_with fail
    have s7 := drewx19 s6
    refine wp_region_held_drew (S := (fun w' => w'.cell? ⟨w.heap.size, 0, none⟩ = some (.slice At nt ct) ∧ w'.cell? ⟨w.heap.size, 1, none⟩ = some (.slice Ak nk ck) ∧ w'.cell? ⟨w.heap.size, 2, none⟩ = some (.int .i64 a) ∧ w'.cell? ⟨w.heap.size, 3, none⟩ = some (.int .i64 b) ∧ w'.cell? ⟨w.heap.size, 4, none⟩ = some (.int .i64 c) ∧ w'.cell? ⟨w.heap.size, 5, none⟩ = some (.int .i64 d) ∧ w'.cell? ⟨w.heap.size, 6, none⟩ = some (.int .i64 e) ∧ w'.cell? ⟨w.heap.size, 7, none⟩ = some (.int .i64 W) ∧ w'.cell? ⟨w.heap.size, 8, none⟩ = some (.int .i64 H) ∧ w'.cell? ⟨w.heap.size, 9, none⟩ = some (x) ∧ w'.cell? ⟨w.heap.size, 10, none⟩ = some (r) ∧ w'.cell? ⟨w.heap.size, 11, none⟩ = some (y) ∧ w'.cell? ⟨w.heap.size + 1, 0, none⟩ = some (.int .i64 T) ∧ w'.cell? ⟨w.heap.size + 1, 1, none⟩ = some (.int .i64 Z) ∧ w'.cell? ⟨w.heap.size + 1, 2, none⟩ = some (u) ∧ w'.cell? ⟨0, 0, none⟩ = some (.int .i64 0) ∧ w'.cell? ⟨0, 1, none⟩ = some (.int .i64 1) ∧ w'.cell? ⟨w4.heap.size, 0, none⟩ = some (.int .i64 c0) ∧ w'.cell? ⟨w4.heap.size, 1, none⟩ = some (.int .i64 c1) ∧ Kp w w')) (by kernel_rfl) ?_ (fun hHeld => ?_)
    · exact s7
    refine wpAnyH_take (i := 0) (oi := ⟨some 36, _, _, _, _, _⟩) (v := ?_) rfl (by kernel_rfl) (by kernel_rfl) (by kernel_rfl) (fun _ _ _ h => h) (Or.inl ⟨by rfl, ?_⟩) (by assumption) ?_
    rotate_left
    · intro w hSw; (try dsimp only at hSw); go_simp; (all_goals with_reducible rfl)
    simp only [Act.put, List.setIfInBounds_toArray, List.set_cons_zero, List.set_cons_succ]
    refine wpAnyH_take (i := 1) (oi := ⟨some 37, _, _, _, _, _⟩) (v := ?_) rfl (by kernel_rfl) (by kernel_rfl) (by kernel_rfl) (fun _ _ _ h => h) (Or.inl ⟨by rfl, ?_⟩) (by assumption) ?_
    rotate_left
    · intro w hSw; (try dsimp only at hSw); go_simp; (all_goals with_reducible rfl)
    simp only [Act.put, List.setIfInBounds_toArray, List.set_cons_zero, List.set_cons_succ]
    refine wpAnyH_take (i := 2) (oi := ⟨some 38, _, _, _, _, _⟩) (v := ?_) rfl (by kernel_rfl) (by kernel_rfl) (by kernel_rfl) (fun _ _ _ h => h) (Or.inl ⟨by rfl, ?_⟩) (by assumption) ?_
    rotate_left
    · intro w hSw; (try dsimp only at hSw); go_simp; (all_goals with_reducible rfl)
    simp only [Act.put, List.setIfInBounds_toArray, List.set_cons_zero, List.set_cons_succ]
    refine wpAnyH_take (i := 3) (oi := ⟨some 39, _, _, _, _, _⟩) (v := ?_) rfl (by kernel_rfl) (by kernel_rfl) (by kernel_rfl) (fun _ _ _ h => h) (Or.inl ⟨by rfl, ?_⟩) (by assumption) ?_
    rotate_left
    · intro w hSw; (try dsimp only at hSw); go_simp; (all_goals with_reducible rfl)
    simp only [Act.put, List.setIfInBounds_toArray, List.set_cons_zero, List.set_cons_succ]
    refine wpAnyH_take (i := 4) (oi := ⟨some 40, _, _, _, _, _⟩) (v := ?_) rfl (by kernel_rfl) (by kernel_rfl) (by kernel_rfl) (fun _ _ _ h => h) (Or.inl ⟨by rfl, ?_⟩) (by assumption) ?_
    rotate_left
    · intro w hSw; (try dsimp only at hSw); go_simp; (all_goals with_reducible rfl)
    simp only [Act.put, List.setIfInBounds_toArray, List.set_cons_zero, List.set_cons_succ]
    refine wpAnyH_take (i := 5) (oi := ⟨some 41, _, _, _, _, _⟩) (v := ?_) rfl (by kernel_rfl) (by kernel_rfl) (by kernel_rfl) (fun _ _ _ h => h) (Or.inl ⟨by rfl, ?_⟩) (by assumption) ?_
    rotate_left
    · intro w hSw; (try dsimp only at hSw); go_simp; (all_goals with_reducible rfl)
    simp only [Act.put, List.setIfInBounds_toArray, List.set_cons_zero, List.set_cons_succ]
    refine wpAnyH_take (i := 6) (oi := ⟨some 42, _, _, _, _, _⟩) (v := ?_) rfl (by kernel_rfl) (by kernel_rfl) (by kernel_rfl) (fun _ _ _ h => h) (Or.inl ⟨by rfl, ?_⟩) (by assumption) ?_
    rotate_left
    · intro w hSw; (try dsimp only at hSw); go_simp; (all_goals with_reducible rfl)
    simp only [Act.put, List.setIfInBounds_toArray, List.set_cons_zero, List.set_cons_succ]
    refine wpAnyH_take (i := 7) (oi := ⟨some 8, _, _, _, _, _⟩) (v := ?_) rfl (by kernel_rfl) (by kernel_rfl) (by kernel_rfl) (fun _ _ _ h => h) (Or.inl ⟨by rfl, ?_⟩) (by assumption) ?_
    rotate_left
    · intro w hSw; (try dsimp only at hSw); go_simp; (all_goals with_reducible rfl)
    simp only [Act.put, List.setIfInBounds_toArray, List.set_cons_zero, List.set_cons_succ]
    refine wpAnyH_take (i := 8) (oi := ⟨some 9, _, _, _, _, _⟩) (v := ?_) rfl (by kernel_rfl) (by kernel_rfl) (by kernel_rfl) (fun _ _ _ h => h) (Or.inl ⟨by rfl, ?_⟩) (by assumption) ?_
    rotate_left
    · intro w hSw; (try dsimp only at hSw); go_simp; (all_goals with_reducible rfl)
    simp only [Act.put, List.setIfInBounds_toArray, List.set_cons_zero, List.set_cons_succ]
    refine wpAnyH_done (by kernel_rfl) ?_ _
    go_wp2_with fail
    go_ret2
    exact ⟨rfl, hHeld.2.2.2.2.2.2.2.2.2.2.2.2.2.2.2.2.2.2.2⟩

set_option maxRecDepth 100000 in
set_option maxHeartbeats 4000000 in
theorem stackRoomP_any (At Ak : Option Addr) (nt nk ct ck : Nat) (l : List Ter) (m : List Knd) (a b c d e W H : Int) (x r y : Value) (lt lr ld : List Int) (T Z : Int) (u : Value) (us : List Uni) (sd i : Int) (w : World) (hs : Spans w) (ht : Tab w) (hu : SpU w) (hB : BrdAt w At Ak nt nk l m x r y lt lr ld) (hS : StaAt w u us) :
    Calls Tryd.prog 19 #[bv (.slice At nt ct) (.slice Ak nk ck) a b c d e W H x r y, sv T Z u, .int .i64 sd, .int .i64 i] w fun e' w' => e' = .returned (ib (((brdOk ⟨l, m, a, b, c, d, e⟩ W H lt lr ld && staOk ⟨l, m, a, b, c, d, e⟩ W H lt T Z us) && onI W H i) && spB 0 1 sd) (roomN us a sd i)) ∧ Kp w w' := by
  have KA : Kp w ((w.alloc (.cells #[.slice At nt ct, .slice Ak nk ck, .int .i64 a, .int .i64 b, .int .i64 c, .int .i64 d, .int .i64 e, .int .i64 W, .int .i64 H, x, r, y] 44)).alloc (.cells #[.int .i64 T, .int .i64 Z, u] 48)) := ((Kp.refl w).alloc _).alloc _
  have s0 : ((w.alloc (.cells #[.slice At nt ct, .slice Ak nk ck, .int .i64 a, .int .i64 b, .int .i64 c, .int .i64 d, .int .i64 e, .int .i64 W, .int .i64 H, x, r, y] 44)).alloc (.cells #[.int .i64 T, .int .i64 Z, u] 48)).cell? ⟨w.heap.size, 0, none⟩ = some (.slice At nt ct) ∧ ((w.alloc (.cells #[.slice At nt ct, .slice Ak nk ck, .int .i64 a, .int .i64 b, .int .i64 c, .int .i64 d, .int .i64 e, .int .i64 W, .int .i64 H, x, r, y] 44)).alloc (.cells #[.int .i64 T, .int .i64 Z, u] 48)).cell? ⟨w.heap.size, 1, none⟩ = some (.slice Ak nk ck) ∧ ((w.alloc (.cells #[.slice At nt ct, .slice Ak nk ck, .int .i64 a, .int .i64 b, .int .i64 c, .int .i64 d, .int .i64 e, .int .i64 W, .int .i64 H, x, r, y] 44)).alloc (.cells #[.int .i64 T, .int .i64 Z, u] 48)).cell? ⟨w.heap.size, 2, none⟩ = some (.int .i64 a) ∧ ((w.alloc (.cells #[.slice At nt ct, .slice Ak nk ck, .int .i64 a, .int .i64 b, .int .i64 c, .int .i64 d, .int .i64 e, .int .i64 W, .int .i64 H, x, r, y] 44)).alloc (.cells #[.int .i64 T, .int .i64 Z, u] 48)).cell? ⟨w.heap.size, 3, none⟩ = some (.int .i64 b) ∧ ((w.alloc (.cells #[.slice At nt ct, .slice Ak nk ck, .int .i64 a, .int .i64 b, .int .i64 c, .int .i64 d, .int .i64 e, .int .i64 W, .int .i64 H, x, r, y] 44)).alloc (.cells #[.int .i64 T, .int .i64 Z, u] 48)).cell? ⟨w.heap.size, 4, none⟩ = some (.int .i64 c) ∧ ((w.alloc (.cells #[.slice At nt ct, .slice Ak nk ck, .int .i64 a, .int .i64 b, .int .i64 c, .int .i64 d, .int .i64 e, .int .i64 W, .int .i64 H, x, r, y] 44)).alloc (.cells #[.int .i64 T, .int .i64 Z, u] 48)).cell? ⟨w.heap.size, 5, none⟩ = some (.int .i64 d) ∧ ((w.alloc (.cells #[.slice At nt ct, .slice Ak nk ck, .int .i64 a, .int .i64 b, .int .i64 c, .int .i64 d, .int .i64 e, .int .i64 W, .int .i64 H, x, r, y] 44)).alloc (.cells #[.int .i64 T, .int .i64 Z, u] 48)).cell? ⟨w.heap.size, 6, none⟩ = some (.int .i64 e) ∧ ((w.alloc (.cells #[.slice At nt ct, .slice Ak nk ck, .int .i64 a, .int .i64 b, .int .i64 c, .int .i64 d, .int .i64 e, .int .i64 W, .int .i64 H, x, r, y] 44)).alloc (.cells #[.int .i64 T, .int .i64 Z, u] 48)).cell? ⟨w.heap.size, 7, none⟩ = some (.int .i64 W) ∧ ((w.alloc (.cells #[.slice At nt ct, .slice Ak nk ck, .int .i64 a, .int .i64 b, .int .i64 c, .int .i64 d, .int .i64 e, .int .i64 W, .int .i64 H, x, r, y] 44)).alloc (.cells #[.int .i64 T, .int .i64 Z, u] 48)).cell? ⟨w.heap.size, 8, none⟩ = some (.int .i64 H) ∧ ((w.alloc (.cells #[.slice At nt ct, .slice Ak nk ck, .int .i64 a, .int .i64 b, .int .i64 c, .int .i64 d, .int .i64 e, .int .i64 W, .int .i64 H, x, r, y] 44)).alloc (.cells #[.int .i64 T, .int .i64 Z, u] 48)).cell? ⟨w.heap.size, 9, none⟩ = some (x) ∧ ((w.alloc (.cells #[.slice At nt ct, .slice Ak nk ck, .int .i64 a, .int .i64 b, .int .i64 c, .int .i64 d, .int .i64 e, .int .i64 W, .int .i64 H, x, r, y] 44)).alloc (.cells #[.int .i64 T, .int .i64 Z, u] 48)).cell? ⟨w.heap.size, 10, none⟩ = some (r) ∧ ((w.alloc (.cells #[.slice At nt ct, .slice Ak nk ck, .int .i64 a, .int .i64 b, .int .i64 c, .int .i64 d, .int .i64 e, .int .i64 W, .int .i64 H, x, r, y] 44)).alloc (.cells #[.int .i64 T, .int .i64 Z, u] 48)).cell? ⟨w.heap.size, 11, none⟩ = some (y) ∧ ((w.alloc (.cells #[.slice At nt ct, .slice Ak nk ck, .int .i64 a, .int .i64 b, .int .i64 c, .int .i64 d, .int .i64 e, .int .i64 W, .int .i64 H, x, r, y] 44)).alloc (.cells #[.int .i64 T, .int .i64 Z, u] 48)).cell? ⟨w.heap.size + 1, 0, none⟩ = some (.int .i64 T) ∧ ((w.alloc (.cells #[.slice At nt ct, .slice Ak nk ck, .int .i64 a, .int .i64 b, .int .i64 c, .int .i64 d, .int .i64 e, .int .i64 W, .int .i64 H, x, r, y] 44)).alloc (.cells #[.int .i64 T, .int .i64 Z, u] 48)).cell? ⟨w.heap.size + 1, 1, none⟩ = some (.int .i64 Z) ∧ ((w.alloc (.cells #[.slice At nt ct, .slice Ak nk ck, .int .i64 a, .int .i64 b, .int .i64 c, .int .i64 d, .int .i64 e, .int .i64 W, .int .i64 H, x, r, y] 44)).alloc (.cells #[.int .i64 T, .int .i64 Z, u] 48)).cell? ⟨w.heap.size + 1, 2, none⟩ = some (u) ∧ ((w.alloc (.cells #[.slice At nt ct, .slice Ak nk ck, .int .i64 a, .int .i64 b, .int .i64 c, .int .i64 d, .int .i64 e, .int .i64 W, .int .i64 H, x, r, y] 44)).alloc (.cells #[.int .i64 T, .int .i64 Z, u] 48)).cell? ⟨0, 0, none⟩ = some (.int .i64 0) ∧ ((w.alloc (.cells #[.slice At nt ct, .slice Ak nk ck, .int .i64 a, .int .i64 b, .int .i64 c, .int .i64 d, .int .i64 e, .int .i64 W, .int .i64 H, x, r, y] 44)).alloc (.cells #[.int .i64 T, .int .i64 Z, u] 48)).cell? ⟨0, 1, none⟩ = some (.int .i64 1) ∧ Kp w ((w.alloc (.cells #[.slice At nt ct, .slice Ak nk ck, .int .i64 a, .int .i64 b, .int .i64 c, .int .i64 d, .int .i64 e, .int .i64 W, .int .i64 H, x, r, y] 44)).alloc (.cells #[.int .i64 T, .int .i64 Z, u] 48)) := ⟨by simp [go_sem], by simp [go_sem], by simp [go_sem], by simp [go_sem], by simp [go_sem], by simp [go_sem], by simp [go_sem], by simp [go_sem], by simp [go_sem], by simp [go_sem], by simp [go_sem], by simp [go_sem], by simp [go_sem], by simp [go_sem], by simp [go_sem], KA.cell hu.side.1, KA.cell hu.side.2, KA⟩
  have C1 := Lib.hid (isStateOn_any At Ak nt nk ct ck l m a b c d e W H x r y lt lr ld T Z u us _ (hs.keep KA) (ht.keep KA) (hu.keep KA) (hB.keep KA) (hS.keep KA))
  cases ho : brdOk ⟨l, m, a, b, c, d, e⟩ W H lt lr ld && staOk ⟨l, m, a, b, c, d, e⟩ W H lt T Z us
  · rw [ho] at C1
    clear hs ht hu hB hS ho
    go_enter Tryd.func19, Tryd.ntmps19
    go_wp2_with fail
    refine C1.out.mono ?_
    rintro e1 w1 ⟨rfl, k1⟩
    go_wp2_with fail
    go_ret2
    exact ⟨rfl, KA.trans k1⟩
  rw [Bool.true_and]
  rw [ho] at C1
  cases hsd : spB 0 1 sd
  · rw [Bool.and_false]
    have CH : Hid (∀ w, Calls Tryd.prog 44 #[.agg #[.int .i64 0, .int .i64 1], .int .i64 sd] w fun e' w' => e' = .returned (.bool false) ∧ Kp w w') := Lib.hid fun w => by
      have := has_any 0 1 (sd) w
      rw [show spB 0 1 (sd) = false from hsd] at this
      exact this
    clear hs ht hu hB hS ho hsd
    go_enter Tryd.func19, Tryd.ntmps19
    go_wp2_with fail
    refine C1.out.mono ?_
    rintro e1 w1 ⟨rfl, k1⟩
    have s1 := keepx17 k1 s0
    clear s0 k1
    go_wp2_with fail
    refine (CH.out _).mono ?_
    rintro e2 w2 ⟨rfl, k2⟩
    go_wp2_with fail
    go_ret2
    exact ⟨rfl, s1.2.2.2.2.2.2.2.2.2.2.2.2.2.2.2.2.2.trans k2⟩
  cases hon : onI W H i
  · have hok : brdOk ⟨l, m, a, b, c, d, e⟩ W H lt lr ld = true := by
      simp only [Bool.and_eq_true] at ho
      exact ho.1
    obtain ⟨p1, p2, p3, p4⟩ := mapOk_side (brdOk_map hok)
    have CIX : Hid (∀ w, Calls Tryd.prog 40 #[mp W H x r y, .int .i64 i] w fun e' w' => e' = .returned (.bool (onI W H i)) ∧ Kp w w') := Lib.hid fun w => isIndex_any W H x r y i w p1 p2 p3 p4
    rw [hon] at CIX
    have CH : Hid (∀ w, Calls Tryd.prog 44 #[.agg #[.int .i64 0, .int .i64 1], .int .i64 sd] w fun e' w' => e' = .returned (.bool true) ∧ Kp w w') := Lib.hid fun w => by
      have := has_any 0 1 (sd) w
      rw [show spB 0 1 (sd) = true from hsd] at this
      exact this
    clear hs ht hu hB hS ho hsd hon hok p1 p2 p3 p4
    go_enter Tryd.func19, Tryd.ntmps19
    go_wp2_with fail
    refine C1.out.mono ?_
    rintro e1 w1 ⟨rfl, k1⟩
    have s1 := keepx17 k1 s0
    clear s0 k1
    go_wp2_with fail
    refine (CH.out _).mono ?_
    rintro e2 w2 ⟨rfl, k2⟩
    have s2 := keepx17 k2 s1
    clear s1 k2
    go_wp2_with fail
    refine (CIX.out _).mono ?_
    rintro e3 w3 ⟨rfl, k3⟩
    go_wp2_with fail
    go_ret2
    exact ⟨rfl, s2.2.2.2.2.2.2.2.2.2.2.2.2.2.2.2.2.2.trans k3⟩
  have h01 : sd = 0 ∨ sd = 1 := by simp [spB] at hsd; omega
  rcases h01 with rfl | rfl
  · exact room_0 At Ak nt nk ct ck l m a b c d e W H x r y lt lr ld T Z u us i w hs ht hu hB hS ho hon
  · exact room_1 At Ak nt nk ct ck l m a b c d e W H x r y lt lr ld T Z u us i w hs ht hu hB hS ho hon

end Go.Proofs.YtiaahpcfciomlaaDoor
