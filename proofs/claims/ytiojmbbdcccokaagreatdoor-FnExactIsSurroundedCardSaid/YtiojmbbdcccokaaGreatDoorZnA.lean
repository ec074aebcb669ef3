/-
  Steps of a unit, as the program tells them; StepAllowed and FreeExits of the program. Nothing that was there is changed. The named variables hold what the program's text lays.
-/
import Derived.Deep.MidRow
import Derived.Test.YtiojmbbdcccokaaGreatDoorZnO
import Derived.Test.YtiojmbbdcccokaaGreatDoorQa
import Derived.Test.YtiojmbbdcccokaaGreatDoorQa
namespace Go.Proofs.YtiojmbbdcccokaaGreatDoor
open Go.RowKit

theorem keepx22 {W0 w w1 : World} {p0 p1 p2 p3 p4 p5 p6 p7 p8 p9 p10 p11 p12 p13 p14 p15 p16 p17 p18 p19 p20 p21 : Addr} {v0 v1 v2 v3 v4 v5 v6 v7 v8 v9 v10 v11 v12 v13 v14 v15 v16 v17 v18 v19 v20 v21 : Value} (k : Kp w w1) (h : w.cell? p0 = some v0 ∧ w.cell? p1 = some v1 ∧ w.cell? p2 = some v2 ∧ w.cell? p3 = some v3 ∧ w.cell? p4 = some v4 ∧ w.cell? p5 = some v5 ∧ w.cell? p6 = some v6 ∧ w.cell? p7 = some v7 ∧ w.cell? p8 = some v8 ∧ w.cell? p9 = some v9 ∧ w.cell? p10 = some v10 ∧ w.cell? p11 = some v11 ∧ w.cell? p12 = some v12 ∧ w.cell? p13 = some v13 ∧ w.cell? p14 = some v14 ∧ w.cell? p15 = some v15 ∧ w.cell? p16 = some v16 ∧ w.cell? p17 = some v17 ∧ w.cell? p18 = some v18 ∧ w.cell? p19 = some v19 ∧ w.cell? p20 = some v20 ∧ w.cell? p21 = some v21 ∧ Kp W0 w) : w1.cell? p0 = some v0 ∧ w1.cell? p1 = some v1 ∧ w1.cell? p2 = some v2 ∧ w1.cell? p3 = some v3 ∧ w1.cell? p4 = some v4 ∧ w1.cell? p5 = some v5 ∧ w1.cell? p6 = some v6 ∧ w1.cell? p7 = some v7 ∧ w1.cell? p8 = some v8 ∧ w1.cell? p9 = some v9 ∧ w1.cell? p10 = some v10 ∧ w1.cell? p11 = some v11 ∧ w1.cell? p12 = some v12 ∧ w1.cell? p13 = some v13 ∧ w1.cell? p14 = some v14 ∧ w1.cell? p15 = some v15 ∧ w1.cell? p16 = some v16 ∧ w1.cell? p17 = some v17 ∧ w1.cell? p18 = some v18 ∧ w1.cell? p19 = some v19 ∧ w1.cell? p20 = some v20 ∧ w1.cell? p21 = some v21 ∧ Kp W0 w1 :=
  ⟨k.cell h.1, k.cell h.2.1, k.cell h.2.2.1, k.cell h.2.2.2.1, k.cell h.2.2.2.2.1, k.cell h.2.2.2.2.2.1, k.cell h.2.2.2.2.2.2.1, k.cell h.2.2.2.2.2.2.2.1, k.cell h.2.2.2.2.2.2.2.2.1, k.cell h.2.2.2.2.2.2.2.2.2.1, k.cell h.2.2.2.2.2.2.2.2.2.2.1, k.cell h.2.2.2.2.2.2.2.2.2.2.2.1, k.cell h.2.2.2.2.2.2.2.2.2.2.2.2.1, k.cell h.2.2.2.2.2.2.2.2.2.2.2.2.2.1, k.cell h.2.2.2.2.2.2.2.2.2.2.2.2.2.2.1, k.cell h.2.2.2.2.2.2.2.2.2.2.2.2.2.2.2.1, k.cell h.2.2.2.2.2.2.2.2.2.2.2.2.2.2.2.2.1, k.cell h.2.2.2.2.2.2.2.2.2.2.2.2.2.2.2.2.2.1, k.cell h.2.2.2.2.2.2.2.2.2.2.2.2.2.2.2.2.2.2.1, k.cell h.2.2.2.2.2.2.2.2.2.2.2.2.2.2.2.2.2.2.2.1, k.cell h.2.2.2.2.2.2.2.2.2.2.2.2.2.2.2.2.2.2.2.2.1, k.cell h.2.2.2.2.2.2.2.2.2.2.2.2.2.2.2.2.2.2.2.2.2.1, h.2.2.2.2.2.2.2.2.2.2.2.2.2.2.2.2.2.2.2.2.2.2.trans k⟩
theorem drewx22 {W0 w : World} {p0 p1 p2 p3 p4 p5 p6 p7 p8 p9 p10 p11 p12 p13 p14 p15 p16 p17 p18 p19 p20 p21 : Addr} {v0 v1 v2 v3 v4 v5 v6 v7 v8 v9 v10 v11 v12 v13 v14 v15 v16 v17 v18 v19 v20 v21 : Value} (h : w.cell? p0 = some v0 ∧ w.cell? p1 = some v1 ∧ w.cell? p2 = some v2 ∧ w.cell? p3 = some v3 ∧ w.cell? p4 = some v4 ∧ w.cell? p5 = some v5 ∧ w.cell? p6 = some v6 ∧ w.cell? p7 = some v7 ∧ w.cell? p8 = some v8 ∧ w.cell? p9 = some v9 ∧ w.cell? p10 = some v10 ∧ w.cell? p11 = some v11 ∧ w.cell? p12 = some v12 ∧ w.cell? p13 = some v13 ∧ w.cell? p14 = some v14 ∧ w.cell? p15 = some v15 ∧ w.cell? p16 = some v16 ∧ w.cell? p17 = some v17 ∧ w.cell? p18 = some v18 ∧ w.cell? p19 = some v19 ∧ w.cell? p20 = some v20 ∧ w.cell? p21 = some v21 ∧ Kp W0 w) : w.drew.cell? p0 = some v0 ∧ w.drew.cell? p1 = some v1 ∧ w.drew.cell? p2 = some v2 ∧ w.drew.cell? p3 = some v3 ∧ w.drew.cell? p4 = some v4 ∧ w.drew.cell? p5 = some v5 ∧ w.drew.cell? p6 = some v6 ∧ w.drew.cell? p7 = some v7 ∧ w.drew.cell? p8 = some v8 ∧ w.drew.cell? p9 = some v9 ∧ w.drew.cell? p10 = some v10 ∧ w.drew.cell? p11 = some v11 ∧ w.drew.cell? p12 = some v12 ∧ w.drew.cell? p13 = some v13 ∧ w.drew.cell? p14 = some v14 ∧ w.drew.cell? p15 = some v15 ∧ w.drew.cell? p16 = some v16 ∧ w.drew.cell? p17 = some v17 ∧ w.drew.cell? p18 = some v18 ∧ w.drew.cell? p19 = some v19 ∧ w.drew.cell? p20 = some v20 ∧ w.drew.cell? p21 = some v21 ∧ Kp W0 w.drew :=
  ⟨h.1, h.2.1, h.2.2.1, h.2.2.2.1, h.2.2.2.2.1, h.2.2.2.2.2.1, h.2.2.2.2.2.2.1, h.2.2.2.2.2.2.2.1, h.2.2.2.2.2.2.2.2.1, h.2.2.2.2.2.2.2.2.2.1, h.2.2.2.2.2.2.2.2.2.2.1, h.2.2.2.2.2.2.2.2.2.2.2.1, h.2.2.2.2.2.2.2.2.2.2.2.2.1, h.2.2.2.2.2.2.2.2.2.2.2.2.2.1, h.2.2.2.2.2.2.2.2.2.2.2.2.2.2.1, h.2.2.2.2.2.2.2.2.2.2.2.2.2.2.2.1, h.2.2.2.2.2.2.2.2.2.2.2.2.2.2.2.2.1, h.2.2.2.2.2.2.2.2.2.2.2.2.2.2.2.2.2.1, h.2.2.2.2.2.2.2.2.2.2.2.2.2.2.2.2.2.2.1, h.2.2.2.2.2.2.2.2.2.2.2.2.2.2.2.2.2.2.2.1, h.2.2.2.2.2.2.2.2.2.2.2.2.2.2.2.2.2.2.2.2.1, h.2.2.2.2.2.2.2.2.2.2.2.2.2.2.2.2.2.2.2.2.2.1, h.2.2.2.2.2.2.2.2.2.2.2.2.2.2.2.2.2.2.2.2.2.2.drew⟩
theorem keepx19 {W0 w w1 : World} {p0 p1 p2 p3 p4 p5 p6 p7 p8 p9 p10 p11 p12 p13 p14 p15 p16 p17 p18 : Addr} {v0 v1 v2 v3 v4 v5 v6 v7 v8 v9 v10 v11 v12 v13 v14 v15 v16 v17 v18 : Value} (k : Kp w w1) (h : w.cell? p0 = some v0 ∧ w.cell? p1 = some v1 ∧ w.cell? p2 = some v2 ∧ w.cell? p3 = some v3 ∧ w.cell? p4 = some v4 ∧ w.cell? p5 = some v5 ∧ w.cell? p6 = some v6 ∧ w.cell? p7 = some v7 ∧ w.cell? p8 = some v8 ∧ w.cell? p9 = some v9 ∧ w.cell? p10 = some v10 ∧ w.cell? p11 = some v11 ∧ w.cell? p12 = some v12 ∧ w.cell? p13 = some v13 ∧ w.cell? p14 = some v14 ∧ w.cell? p15 = some v15 ∧ w.cell? p16 = some v16 ∧ w.cell? p17 = some v17 ∧ w.cell? p18 = some v18 ∧ Kp W0 w) : w1.cell? p0 = some v0 ∧ w1.cell? p1 = some v1 ∧ w1.cell? p2 = some v2 ∧ w1.cell? p3 = some v3 ∧ w1.cell? p4 = some v4 ∧ w1.cell? p5 = some v5 ∧ w1.cell? p6 = some v6 ∧ w1.cell? p7 = some v7 ∧ w1.cell? p8 = some v8 ∧ w1.cell? p9 = some v9 ∧ w1.cell? p10 = some v10 ∧ w1.cell? p11 = some v11 ∧ w1.cell? p12 = some v12 ∧ w1.cell? p13 = some v13 ∧ w1.cell? p14 = some v14 ∧ w1.cell? p15 = some v15 ∧ w1.cell? p16 = some v16 ∧ w1.cell? p17 = some v17 ∧ w1.cell? p18 = some v18 ∧ Kp W0 w1 :=
  ⟨k.cell h.1, k.cell h.2.1, k.cell h.2.2.1, k.cell h.2.2.2.1, k.cell h.2.2.2.2.1, k.cell h.2.2.2.2.2.1, k.cell h.2.2.2.2.2.2.1, k.cell h.2.2.2.2.2.2.2.1, k.cell h.2.2.2.2.2.2.2.2.1, k.cell h.2.2.2.2.2.2.2.2.2.1, k.cell h.2.2.2.2.2.2.2.2.2.2.1, k.cell h.2.2.2.2.2.2.2.2.2.2.2.1, k.cell h.2.2.2.2.2.2.2.2.2.2.2.2.1, k.cell h.2.2.2.2.2.2.2.2.2.2.2.2.2.1, k.cell h.2.2.2.2.2.2.2.2.2.2.2.2.2.2.1, k.cell h.2.2.2.2.2.2.2.2.2.2.2.2.2.2.2.1, k.cell h.2.2.2.2.2.2.2.2.2.2.2.2.2.2.2.2.1, k.cell h.2.2.2.2.2.2.2.2.2.2.2.2.2.2.2.2.2.1, k.cell h.2.2.2.2.2.2.2.2.2.2.2.2.2.2.2.2.2.2.1, h.2.2.2.2.2.2.2.2.2.2.2.2.2.2.2.2.2.2.2.trans k⟩
theorem drewx19 {W0 w : World} {p0 p1 p2 p3 p4 p5 p6 p7 p8 p9 p10 p11 p12 p13 p14 p15 p16 p17 p18 : Addr} {v0 v1 v2 v3 v4 v5 v6 v7 v8 v9 v10 v11 v12 v13 v14 v15 v16 v17 v18 : Value} (h : w.cell? p0 = some v0 ∧ w.cell? p1 = some v1 ∧ w.cell? p2 = some v2 ∧ w.cell? p3 = some v3 ∧ w.cell? p4 = some v4 ∧ w.cell? p5 = some v5 ∧ w.cell? p6 = some v6 ∧ w.cell? p7 = some v7 ∧ w.cell? p8 = some v8 ∧ w.cell? p9 = some v9 ∧ w.cell? p10 = some v10 ∧ w.cell? p11 = some v11 ∧ w.cell? p12 = some v12 ∧ w.cell? p13 = some v13 ∧ w.cell? p14 = some v14 ∧ w.cell? p15 = some v15 ∧ w.cell? p16 = some v16 ∧ w.cell? p17 = some v17 ∧ w.cell? p18 = some v18 ∧ Kp W0 w) : w.drew.cell? p0 = some v0 ∧ w.drew.cell? p1 = some v1 ∧ w.drew.cell? p2 = some v2 ∧ w.drew.cell? p3 = some v3 ∧ w.drew.cell? p4 = some v4 ∧ w.drew.cell? p5 = some v5 ∧ w.drew.cell? p6 = some v6 ∧ w.drew.cell? p7 = some v7 ∧ w.drew.cell? p8 = some v8 ∧ w.drew.cell? p9 = some v9 ∧ w.drew.cell? p10 = some v10 ∧ w.drew.cell? p11 = some v11 ∧ w.drew.cell? p12 = some v12 ∧ w.drew.cell? p13 = some v13 ∧ w.drew.cell? p14 = some v14 ∧ w.drew.cell? p15 = some v15 ∧ w.drew.cell? p16 = some v16 ∧ w.drew.cell? p17 = some v17 ∧ w.drew.cell? p18 = some v18 ∧ Kp W0 w.drew :=
  ⟨h.1, h.2.1, h.2.2.1, h.2.2.2.1, h.2.2.2.2.1, h.2.2.2.2.2.1, h.2.2.2.2.2.2.1, h.2.2.2.2.2.2.2.1, h.2.2.2.2.2.2.2.2.1, h.2.2.2.2.2.2.2.2.2.1, h.2.2.2.2.2.2.2.2.2.2.1, h.2.2.2.2.2.2.2.2.2.2.2.1, h.2.2.2.2.2.2.2.2.2.2.2.2.1, h.2.2.2.2.2.2.2.2.2.2.2.2.2.1, h.2.2.2.2.2.2.2.2.2.2.2.2.2.2.1, h.2.2.2.2.2.2.2.2.2.2.2.2.2.2.2.1, h.2.2.2.2.2.2.2.2.2.2.2.2.2.2.2.2.1, h.2.2.2.2.2.2.2.2.2.2.2.2.2.2.2.2.2.1, h.2.2.2.2.2.2.2.2.2.2.2.2.2.2.2.2.2.2.1, h.2.2.2.2.2.2.2.2.2.2.2.2.2.2.2.2.2.2.2.drew⟩
theorem keepx16 {W0 w w1 : World} {p0 p1 p2 p3 p4 p5 p6 p7 p8 p9 p10 p11 p12 p13 p14 p15 : Addr} {v0 v1 v2 v3 v4 v5 v6 v7 v8 v9 v10 v11 v12 v13 v14 v15 : Value} (k : Kp w w1) (h : w.cell? p0 = some v0 ∧ w.cell? p1 = some v1 ∧ w.cell? p2 = some v2 ∧ w.cell? p3 = some v3 ∧ w.cell? p4 = some v4 ∧ w.cell? p5 = some v5 ∧ w.cell? p6 = some v6 ∧ w.cell? p7 = some v7 ∧ w.cell? p8 = some v8 ∧ w.cell? p9 = some v9 ∧ w.cell? p10 = some v10 ∧ w.cell? p11 = some v11 ∧ w.cell? p12 = some v12 ∧ w.cell? p13 = some v13 ∧ w.cell? p14 = some v14 ∧ w.cell? p15 = some v15 ∧ Kp W0 w) : w1.cell? p0 = some v0 ∧ w1.cell? p1 = some v1 ∧ w1.cell? p2 = some v2 ∧ w1.cell? p3 = some v3 ∧ w1.cell? p4 = some v4 ∧ w1.cell? p5 = some v5 ∧ w1.cell? p6 = some v6 ∧ w1.cell? p7 = some v7 ∧ w1.cell? p8 = some v8 ∧ w1.cell? p9 = some v9 ∧ w1.cell? p10 = some v10 ∧ w1.cell? p11 = some v11 ∧ w1.cell? p12 = some v12 ∧ w1.cell? p13 = some v13 ∧ w1.cell? p14 = some v14 ∧ w1.cell? p15 = some v15 ∧ Kp W0 w1 :=
  ⟨k.cell h.1, k.cell h.2.1, k.cell h.2.2.1, k.cell h.2.2.2.1, k.cell h.2.2.2.2.1, k.cell h.2.2.2.2.2.1, k.cell h.2.2.2.2.2.2.1, k.cell h.2.2.2.2.2.2.2.1, k.cell h.2.2.2.2.2.2.2.2.1, k.cell h.2.2.2.2.2.2.2.2.2.1, k.cell h.2.2.2.2.2.2.2.2.2.2.1, k.cell h.2.2.2.2.2.2.2.2.2.2.2.1, k.cell h.2.2.2.2.2.2.2.2.2.2.2.2.1, k.cell h.2.2.2.2.2.2.2.2.2.2.2.2.2.1, k.cell h.2.2.2.2.2.2.2.2.2.2.2.2.2.2.1, k.cell h.2.2.2.2.2.2.2.2.2.2.2.2.2.2.2.1, h.2.2.2.2.2.2.2.2.2.2.2.2.2.2.2.2.trans k⟩
theorem drewx16 {W0 w : World} {p0 p1 p2 p3 p4 p5 p6 p7 p8 p9 p10 p11 p12 p13 p14 p15 : Addr} {v0 v1 v2 v3 v4 v5 v6 v7 v8 v9 v10 v11 v12 v13 v14 v15 : Value} (h : w.cell? p0 = some v0 ∧ w.cell? p1 = some v1 ∧ w.cell? p2 = some v2 ∧ w.cell? p3 = some v3 ∧ w.cell? p4 = some v4 ∧ w.cell? p5 = some v5 ∧ w.cell? p6 = some v6 ∧ w.cell? p7 = some v7 ∧ w.cell? p8 = some v8 ∧ w.cell? p9 = some v9 ∧ w.cell? p10 = some v10 ∧ w.cell? p11 = some v11 ∧ w.cell? p12 = some v12 ∧ w.cell? p13 = some v13 ∧ w.cell? p14 = some v14 ∧ w.cell? p15 = some v15 ∧ Kp W0 w) : w.drew.cell? p0 = some v0 ∧ w.drew.cell? p1 = some v1 ∧ w.drew.cell? p2 = some v2 ∧ w.drew.cell? p3 = some v3 ∧ w.drew.cell? p4 = some v4 ∧ w.drew.cell? p5 = some v5 ∧ w.drew.cell? p6 = some v6 ∧ w.drew.cell? p7 = some v7 ∧ w.drew.cell? p8 = some v8 ∧ w.drew.cell? p9 = some v9 ∧ w.drew.cell? p10 = some v10 ∧ w.drew.cell? p11 = some v11 ∧ w.drew.cell? p12 = some v12 ∧ w.drew.cell? p13 = some v13 ∧ w.drew.cell? p14 = some v14 ∧ w.drew.cell? p15 = some v15 ∧ Kp W0 w.drew :=
  ⟨h.1, h.2.1, h.2.2.1, h.2.2.2.1, h.2.2.2.2.1, h.2.2.2.2.2.1, h.2.2.2.2.2.2.1, h.2.2.2.2.2.2.2.1, h.2.2.2.2.2.2.2.2.1, h.2.2.2.2.2.2.2.2.2.1, h.2.2.2.2.2.2.2.2.2.2.1, h.2.2.2.2.2.2.2.2.2.2.2.1, h.2.2.2.2.2.2.2.2.2.2.2.2.1, h.2.2.2.2.2.2.2.2.2.2.2.2.2.1, h.2.2.2.2.2.2.2.2.2.2.2.2.2.2.1, h.2.2.2.2.2.2.2.2.2.2.2.2.2.2.2.1, h.2.2.2.2.2.2.2.2.2.2.2.2.2.2.2.2.drew⟩

set_option maxRecDepth 100000 in
set_option maxHeartbeats 4000000 in
theorem stepOpen_any (At Ak : Option Addr) (nt nk ct ck : Nat) (l : List Ter) (m : List Knd) (a b c d e W H : Int) (x r y : Value) (lt lr ld : List Int) (T Z : Int) (u : Value) (sx ax tx sd : Int) (j i n : Nat) (w : World) (hB : BrdAt w At Ak nt nk l m x r y lt lr ld) (hok : brdOk ⟨l, m, a, b, c, d, e⟩ W H lt lr ld = true) (hj : j < m.length) (hn : n < lt.length) :
    Calls Tryz.prog 90 #[.agg #[.int .i64 sx, .int .i64 (j : Int), .int .i64 ax, .int .i64 tx, .slice At nt ct, .slice Ak nk ck, .int .i64 a, .int .i64 b, .int .i64 c, .int .i64 d, .int .i64 e, .int .i64 W, .int .i64 H, x, r, y, .int .i64 T, .int .i64 Z, u, .int .i64 sd, .int .i64 (i : Int), .int .i64 (n : Int)]] w fun e' w' => e' = .returned (.bool (opnB l lt j n)) ∧ Kp w w' := by
  have KA : Kp w (w.alloc (.cells #[.int .i64 sx, .int .i64 (j : Int), .int .i64 ax, .int .i64 tx, .slice At nt ct, .slice Ak nk ck, .int .i64 a, .int .i64 b, .int .i64 c, .int .i64 d, .int .i64 e, .int .i64 W, .int .i64 H, x, r, y, .int .i64 T, .int .i64 Z, u, .int .i64 sd, .int .i64 (i : Int), .int .i64 (n : Int)] 97)) := (Kp.refl w).alloc _
  have C1 := Lib.hid (isOpen_any At Ak nt nk ct ck l m a b c d e W H x r y lt lr ld j n _ (hB.keep KA) hok hj hn)
  generalize opnB l lt j n = R at C1 ⊢
  clear hB hok hj hn
  go_enter Tryz.func90, Tryz.ntmps90
  go_wp2_with fail
  refine C1.out.mono ?_
  rintro e1 w1 ⟨rfl, k1⟩
  go_wp2_with fail
  go_ret
  exact ⟨rfl, KA.trans k1⟩

set_option maxRecDepth 100000 in
set_option maxHeartbeats 4000000 in
theorem meets_any (At Ak : Option Addr) (nt nk ct ck : Nat) (l : List Ter) (m : List Knd) (a b c d e W H : Int) (x r y : Value) (lt : List Int) (T Z : Int) (u : Value) (us : List Uni) (sx ax tx sd : Int) (j i n : Nat) (w : World) (hS : StaAt w u us) (hst : staOk ⟨l, m, a, b, c, d, e⟩ W H lt T Z us = true) :
    Calls Tryz.prog 91 #[.agg #[.int .i64 sx, .int .i64 (j : Int), .int .i64 ax, .int .i64 tx, .slice At nt ct, .slice Ak nk ck, .int .i64 a, .int .i64 b, .int .i64 c, .int .i64 d, .int .i64 e, .int .i64 W, .int .i64 H, x, r, y, .int .i64 T, .int .i64 Z, u, .int .i64 sd, .int .i64 (i : Int), .int .i64 (n : Int)]] w fun e' w' => e' = .returned (.bool (ownN us n == sd)) ∧ Kp w w' := by
  have KA : Kp w (w.alloc (.cells #[.int .i64 sx, .int .i64 (j : Int), .int .i64 ax, .int .i64 tx, .slice At nt ct, .slice Ak nk ck, .int .i64 a, .int .i64 b, .int .i64 c, .int .i64 d, .int .i64 e, .int .i64 W, .int .i64 H, x, r, y, .int .i64 T, .int .i64 Z, u, .int .i64 sd, .int .i64 (i : Int), .int .i64 (n : Int)] 97)) := (Kp.refl w).alloc _
  have s0 : cb22 (w.alloc (.cells #[.int .i64 sx, .int .i64 (j : Int), .int .i64 ax, .int .i64 tx, .slice At nt ct, .slice Ak nk ck, .int .i64 a, .int .i64 b, .int .i64 c, .int .i64 d, .int .i64 e, .int .i64 W, .int .i64 H, x, r, y, .int .i64 T, .int .i64 Z, u, .int .i64 sd, .int .i64 (i : Int), .int .i64 (n : Int)] 97)) (w.heap.size) (.int .i64 sx) (.int .i64 (j : Int)) (.int .i64 ax) (.int .i64 tx) (.slice At nt ct) (.slice Ak nk ck) (.int .i64 a) (.int .i64 b) (.int .i64 c) (.int .i64 d) (.int .i64 e) (.int .i64 W) (.int .i64 H) (x) (r) (y) (.int .i64 T) (.int .i64 Z) (u) (.int .i64 sd) (.int .i64 (i : Int)) (.int .i64 (n : Int)) (Kp w (w.alloc (.cells #[.int .i64 sx, .int .i64 (j : Int), .int .i64 ax, .int .i64 tx, .slice At nt ct, .slice Ak nk ck, .int .i64 a, .int .i64 b, .int .i64 c, .int .i64 d, .int .i64 e, .int .i64 W, .int .i64 H, x, r, y, .int .i64 T, .int .i64 Z, u, .int .i64 sd, .int .i64 (i : Int), .int .i64 (n : Int)] 97))) := ⟨by simp [go_sem], by simp [go_sem], by simp [go_sem], by simp [go_sem], by simp [go_sem], by simp [go_sem], by simp [go_sem], by simp [go_sem], by simp [go_sem], by simp [go_sem], by simp [go_sem], by simp [go_sem], by simp [go_sem], by simp [go_sem], by simp [go_sem], by simp [go_sem], by simp [go_sem], by simp [go_sem], by simp [go_sem], by simp [go_sem], by simp [go_sem], by simp [go_sem], KA⟩
  have HS := Lib.hid hS
  have C1 := Lib.hid (fun (w : World) hS => ownerAt_any T Z u us (n : Int) w hS hst (by omega))
  generalize ownN us (n : Int) = R at C1 ⊢
  clear hS hst
  go_enter Tryz.func91, Tryz.ntmps91
  go_wp2_with fail
  have s1 := drewx22 s0
  clear s0
  refine wp_region_held_drew (S := (fun w' => cb22 w' (w.heap.size) (.int .i64 sx) (.int .i64 (j : Int)) (.int .i64 ax) (.int .i64 tx) (.slice At nt ct) (.slice Ak nk ck) (.int .i64 a) (.int .i64 b) (.int .i64 c) (.int .i64 d) (.int .i64 e) (.int .i64 W) (.int .i64 H) (x) (r) (y) (.int .i64 T) (.int .i64 Z) (u) (.int .i64 sd) (.int .i64 (i : Int)) (.int .i64 (n : Int)) (Kp w w'))) (by kernel_rfl) ?_ (fun hHeld => ?_)
  · assumption
  generalize (w.alloc (.cells #[.int .i64 sx, .int .i64 (j : Int), .int .i64 ax, .int .i64 tx, .slice At nt ct, .slice Ak nk ck, .int .i64 a, .int .i64 b, .int .i64 c, .int .i64 d, .int .i64 e, .int .i64 W, .int .i64 H, x, r, y, .int .i64 T, .int .i64 Z, u, .int .i64 sd, .int .i64 (i : Int), .int .i64 (n : Int)] 97)).drew = V at *
  refine tk 0 ⟨some 3, _, _, _, _, _⟩ ?_ rfl (by kernel_rfl) (fun _ _ _ h => h) (by rfl) ?_ (by assumption) ?_
  rotate_left
  · intro w hSw; (try dsimp only at hSw); go_simp; (all_goals with_reducible rfl)
  try simp only [Act.put, sA, sB, sC]
  refine tk 1 ⟨some 4, _, _, _, _, _⟩ ?_ rfl (by kernel_rfl) (fun _ _ _ h => h) (by rfl) ?_ (by assumption) ?_
  rotate_left
  · intro w hSw; (try dsimp only at hSw); go_simp; (all_goals with_reducible rfl)
  try simp only [Act.put, sA, sB, sC]
  refine tk 2 ⟨some 5, _, _, _, _, _⟩ ?_ rfl (by kernel_rfl) (fun _ _ _ h => h) (by rfl) ?_ (by assumption) ?_
  rotate_left
  · intro w hSw; (try dsimp only at hSw); go_simp; (all_goals with_reducible rfl)
  try simp only [Act.put, sA, sB, sC]
  refine tk 3 ⟨some 6, _, _, _, _, _⟩ ?_ rfl (by kernel_rfl) (fun _ _ _ h => h) (by rfl) ?_ (by assumption) ?_
  rotate_left
  · intro w hSw; (try dsimp only at hSw); go_simp; (all_goals with_reducible rfl)
  try simp only [Act.put, sA, sB, sC]
  refine tk 4 ⟨some 7, _, _, _, _, _⟩ ?_ rfl (by kernel_rfl) (fun _ _ _ h => h) (by rfl) ?_ (by assumption) ?_
  rotate_left
  · intro w hSw; (try dsimp only at hSw); go_simp; (all_goals with_reducible rfl)
  try simp only [Act.put, sA, sB, sC]
  refine tk 6 ⟨some 9, _, _, _, _, _⟩ ?_ rfl (by kernel_rfl) (fun _ _ _ h => h) (by rfl) ?_ (by assumption) ?_
  rotate_left
  · intro w hSw; (try dsimp only at hSw); go_simp; (all_goals with_reducible rfl)
  try simp only [Act.put, sA, sB, sC]
  refine tk 7 ⟨some 10, _, _, _, _, _⟩ ?_ rfl (by kernel_rfl) (fun _ _ _ h => h) (by rfl) ?_ (by assumption) ?_
  rotate_left
  · intro w hSw; (try dsimp only at hSw); go_simp; (all_goals with_reducible rfl)
  try simp only [Act.put, sA, sB, sC]
  refine tk 8 ⟨some 11, _, _, _, _, _⟩ ?_ rfl (by kernel_rfl) (fun _ _ _ h => h) (by rfl) ?_ (by assumption) ?_
  rotate_left
  · intro w hSw; (try dsimp only at hSw); go_simp; (all_goals with_reducible rfl)
  try simp only [Act.put, sA, sB, sC]
  refine wpAnyH_ready (rs := [5]) (by kernel_rfl) (by simp) ?_
  refine (AllReadyH.cons (o := ⟨some 8, _, _, _, _, _⟩) rfl (fun K hK => ?_) AllReadyH.nil)
  go_simp
  refine (C1.out _ (HS.out.keep hHeld.2.2.2.2.2.2.2.2.2.2.2.2.2.2.2.2.2.2.2.2.2.2)).mono ?_
  rintro e2 w2 ⟨rfl, k2⟩
  have s2 := keepx22 k2 hHeld
  go_wp2_with fail
  refine hK.out _ _ ?_ (fun hHeld => ?_)
  · (try dsimp only); (first | assumption)
  clear hK K
  try simp only [Act.put, sA, sB, sC]
  refine tk 9 ⟨some 12, _, _, _, _, _⟩ ?_ rfl (by kernel_rfl) (fun _ _ _ h => h) (by rfl) ?_ (by assumption) ?_
  rotate_left
  · intro w hSw; (try dsimp only at hSw); go_simp; (all_goals with_reducible rfl)
  try simp only [Act.put, sA, sB, sC]
  refine tk 10 ⟨some 2, _, _, _, _, _⟩ ?_ rfl (by kernel_rfl) (fun _ _ _ h => h) (by rfl) ?_ (by assumption) ?_
  rotate_left
  · intro w hSw; (try dsimp only at hSw); go_simp; (all_goals with_reducible rfl)
  try simp only [Act.put, sA, sB, sC]
  refine wpAnyH_done (by kernel_rfl) ?_ _
  go_wp2_with fail
  go_ret
  exact ⟨rfl, hHeld.2.2.2.2.2.2.2.2.2.2.2.2.2.2.2.2.2.2.2.2.2.2⟩

theorem wpList_load_h {ops : Array Oper} {rest : List Oper} {dst : Option Tmp} {ty' : TypeId} {pos : String} {af : Array Edge} {g : Option (Nat × Bool)} {a : Act} {w : World} {Q : Exit → Act → World → Prop} {ty : TypeId} {x : Operand}
    {b o : Nat} {cs : List Value} {d : TypeDesc} (hc : w.rangeAt b o cs)
    (hu : Tryz.prog.underlying ty = some d) (hi : (Tryz.prog.info? ty).map (·.size) = some cs.length) (hd : d.isRow = true)
    (hw : Region.wanted ⟨dst, .load ty x, ty', pos, af, g⟩ (yielded ops a.tmps) = true) (hx : a.eval x = .pointer (some ⟨b, o, none⟩))
    (h : wpList Tryz.prog ops Q rest (a.put dst (.agg cs.toArray)) w) : wpList Tryz.prog ops Q (⟨dst, .load ty x, ty', pos, af, g⟩ :: rest) a w :=
  wpList_step fun K hK => by
    rw [if_pos hw]
    exact wp_load_mid ty x rfl b o hx cs d hc hu hd hi (hK _ _ h)
theorem wpList_store_h {ops : Array Oper} {rest : List Oper} {dst : Option Tmp} {ty' : TypeId} {pos : String} {af : Array Edge} {g : Option (Nat × Bool)} {a : Act} {w : World} {Q : Exit → Act → World → Prop} {ty : TypeId} {x y : Operand}
    {b o : Nat} {cells : Array Value} (ht : w.there b o cells.size) (hi : (Tryz.prog.info? ty).map (·.size) = some cells.size) (h1 : cells.all (·.oneCell') = true)
    (hw : Region.wanted ⟨dst, .store ty x y, ty', pos, af, g⟩ (yielded ops a.tmps) = true) (hx : a.eval x = .pointer (some ⟨b, o, none⟩)) (hy : a.eval y = .agg cells)
    (h : wpList Tryz.prog ops Q rest (a.put dst undef) (w.setCells b o cells.toList)) : wpList Tryz.prog ops Q (⟨dst, .store ty x y, ty', pos, af, g⟩ :: rest) a w :=
  wpList_step fun K hK => by
    rw [if_pos hw]
    exact wp_store_mid ty x y rfl b o cells hx hy ht hi h1 (hK _ _ h)
theorem there_new (w : World) (cs : List Value) (T : TypeId) : (w.alloc (.cells cs.toArray T)).there w.heap.size 0 cs.length := fun k hk => by
  rw [Nat.zero_add]
  exact ⟨by simp [go_sem, hk], by simp [go_sem]⟩
theorem rangeAt_keep {w w' : World} {b o : Nat} {cs : List Value} (h : w.rangeAt b o cs) (k : Kp w w') : w'.rangeAt b o cs := fun j v hv => k.cell (h j v hv)
theorem rangeAt_at {w : World} {b : Nat} {cs : List Value} (h : w.rangeAt b 0 cs) (j : Nat) (v : Value) (hv : cs[j]? = some v) : w.cell? ⟨b, j, none⟩ = some v := by
  have := h j v hv
  rwa [Nat.zero_add] at this
theorem rangeAt_new (w : World) (cs : List Value) (T : TypeId) : (w.alloc (.cells cs.toArray T)).rangeAt w.heap.size 0 cs := fun j v hv => by
  rw [Nat.zero_add]
  simpa [go_sem] using hv
theorem rangeAt_part {w : World} {b : Nat} {cs : List Value} (h : w.rangeAt b 0 cs) (o n : Nat) : w.rangeAt b o ((cs.drop o).take n) := fun j v hv => by
  rw [List.getElem?_take] at hv
  split at hv
  · rw [List.getElem?_drop] at hv
    have := h (o + j) v hv
    rwa [Nat.zero_add] at this
  · cases hv

set_option maxRecDepth 100000 in
set_option maxHeartbeats 4000000 in
theorem allowed_any (At Ak : Option Addr) (nt nk ct ck : Nat) (l : List Ter) (m : List Knd) (a b c d e W H : Int) (x r y : Value) (lt lr ld : List Int) (T Z : Int) (u : Value) (us : List Uni) (sx ax tx sd : Int) (j i n : Nat) (w : World) (ht : Tab w) (hB : BrdAt w At Ak nt nk l m x r y lt lr ld) (hS : StaAt w u us) (hok : brdOk ⟨l, m, a, b, c, d, e⟩ W H lt lr ld = true) (hst : staOk ⟨l, m, a, b, c, d, e⟩ W H lt T Z us = true) (hj : j < m.length) (hi : i < lt.length) (hn : n < lt.length) :
    Calls Tryz.prog 84 #[.agg #[.int .i64 sx, .int .i64 (j : Int), .int .i64 ax, .int .i64 tx, .slice At nt ct, .slice Ak nk ck, .int .i64 a, .int .i64 b, .int .i64 c, .int .i64 d, .int .i64 e, .int .i64 W, .int .i64 H, x, r, y, .int .i64 T, .int .i64 Z, u, .int .i64 sd, .int .i64 (i : Int), .int .i64 (n : Int)]] w fun e' w' => e' = .returned (.bool (opnB l lt j n && (!(ownN us n == sd) && !(zonB l m lt lr ld W us sd i && zonB l m lt lr ld W us sd n)))) ∧ Kp w w' := by
  have hlen := mapOk_len (brdOk_map hok)
  have KA : Kp w (w.alloc (.cells #[.int .i64 sx, .int .i64 (j : Int), .int .i64 ax, .int .i64 tx, .slice At nt ct, .slice Ak nk ck, .int .i64 a, .int .i64 b, .int .i64 c, .int .i64 d, .int .i64 e, .int .i64 W, .int .i64 H, x, r, y, .int .i64 T, .int .i64 Z, u, .int .i64 sd, .int .i64 (i : Int), .int .i64 (n : Int)] 97)) := (Kp.refl w).alloc _
  have s0 : World.rangeAt (w.alloc (.cells #[.int .i64 sx, .int .i64 (j : Int), .int .i64 ax, .int .i64 tx, .slice At nt ct, .slice Ak nk ck, .int .i64 a, .int .i64 b, .int .i64 c, .int .i64 d, .int .i64 e, .int .i64 W, .int .i64 H, x, r, y, .int .i64 T, .int .i64 Z, u, .int .i64 sd, .int .i64 (i : Int), .int .i64 (n : Int)] 97)) w.heap.size 0 [.int .i64 sx, .int .i64 (j : Int), .int .i64 ax, .int .i64 tx, .slice At nt ct, .slice Ak nk ck, .int .i64 a, .int .i64 b, .int .i64 c, .int .i64 d, .int .i64 e, .int .i64 W, .int .i64 H, x, r, y, .int .i64 T, .int .i64 Z, u, .int .i64 sd, .int .i64 (i : Int), .int .i64 (n : Int)] := rangeAt_new w [.int .i64 sx, .int .i64 (j : Int), .int .i64 ax, .int .i64 tx, .slice At nt ct, .slice Ak nk ck, .int .i64 a, .int .i64 b, .int .i64 c, .int .i64 d, .int .i64 e, .int .i64 W, .int .i64 H, x, r, y, .int .i64 T, .int .i64 Z, u, .int .i64 sd, .int .i64 (i : Int), .int .i64 (n : Int)] 97
  have z0 : World.rangeAt (w.alloc (.cells #[.int .i64 sx, .int .i64 (j : Int), .int .i64 ax, .int .i64 tx, .slice At nt ct, .slice Ak nk ck, .int .i64 a, .int .i64 b, .int .i64 c, .int .i64 d, .int .i64 e, .int .i64 W, .int .i64 H, x, r, y, .int .i64 T, .int .i64 Z, u, .int .i64 sd, .int .i64 (i : Int), .int .i64 (n : Int)] 97)) w.heap.size 4 [.slice At nt ct, .slice Ak nk ck, .int .i64 a, .int .i64 b, .int .i64 c, .int .i64 d, .int .i64 e, .int .i64 W, .int .i64 H, x, r, y, .int .i64 T, .int .i64 Z, u, .int .i64 sd] := rangeAt_part s0 4 16
  have H0 := Lib.hid (And.intro s0 z0)
  have CF : Hid (∀ w', Kp (w.alloc (.cells #[.int .i64 sx, .int .i64 (j : Int), .int .i64 ax, .int .i64 tx, .slice At nt ct, .slice Ak nk ck, .int .i64 a, .int .i64 b, .int .i64 c, .int .i64 d, .int .i64 e, .int .i64 W, .int .i64 H, x, r, y, .int .i64 T, .int .i64 Z, u, .int .i64 sd, .int .i64 (i : Int), .int .i64 (n : Int)] 97)) w' → w'.cell? ⟨w.heap.size, 20, none⟩ = some (.int .i64 (i : Int)) ∧ w'.cell? ⟨w.heap.size, 21, none⟩ = some (.int .i64 (n : Int))) := Lib.hid fun w' k => ⟨k.cell (rangeAt_at s0 20 _ rfl), k.cell (rangeAt_at s0 21 _ rfl)⟩
  have I22 : Hid ((Tryz.prog.info? 97).map (·.size) = some 22) := Lib.hid (by kernel_rfl)
  have I16 : Hid ((Tryz.prog.info? 73).map (·.size) = some 16) := Lib.hid (by kernel_rfl)
  have HT := Lib.hid ht
  have HB := Lib.hid hB
  have HS := Lib.hid hS
  have CO := Lib.hid (fun (w : World) hB => stepOpen_any At Ak nt nk ct ck l m a b c d e W H x r y lt lr ld T Z u sx ax tx sd j i n w hB hok hj hn)
  have CM := Lib.hid (fun (w : World) hS => meets_any At Ak nt nk ct ck l m a b c d e W H x r y lt T Z u us sx ax tx sd j i n w hS hst)
  have CA := Lib.hid (fun (w : World) ht hB hS => has_zone At Ak nt nk ct ck l m a b c d e W H x r y lt lr ld T Z u us sd (i : Int) w ht hB hS hok hst (onI_mk (by omega) (by omega)))
  have CB := Lib.hid (fun (w : World) ht hB hS => has_zone At Ak nt nk ct ck l m a b c d e W H x r y lt lr ld T Z u us sd (n : Int) w ht hB hS hok hst (onI_mk (by omega) (by omega)))
  generalize opnB l lt j n = O at CO ⊢
  generalize (ownN us n == sd) = M at CM ⊢
  generalize zonB l m lt lr ld W us sd (i : Int) = P at CA ⊢
  generalize zonB l m lt lr ld W us sd (n : Int) = Q at CB ⊢
  clear ht hB hS hok hst hj hi hn hlen s0 z0
  cases O
  · clear CM CA CB
    go_enter Tryz.func84, Tryz.ntmps84
    go_upto_region 1 with (fail)
    generalize (w.alloc (.cells #[.int .i64 sx, .int .i64 (j : Int), .int .i64 ax, .int .i64 tx, .slice At nt ct, .slice Ak nk ck, .int .i64 a, .int .i64 b, .int .i64 c, .int .i64 d, .int .i64 e, .int .i64 W, .int .i64 H, x, r, y, .int .i64 T, .int .i64 Z, u, .int .i64 sd, .int .i64 (i : Int), .int .i64 (n : Int)] 97)) = W0 at *
    have k0 := Kp.refl W0
    obtain ⟨s0, z0⟩ := H0.out
    obtain ⟨cf, cto⟩ := CF.out W0 k0
    go_wp2_with (first | ((with_reducible refine wpList_load_h s0 Tryz.underlying97 ?_ ?_ ?_ ?_ ?_); exact I22.out; rfl; rfl; rfl) | ((with_reducible refine wpList_load_h z0 Tryz.underlying73 ?_ ?_ ?_ ?_ ?_); exact I16.out; rfl; rfl; rfl))
    refine (CO.out _ (HB.out.keep (KA.trans k0))).mono ?_
    rintro e1 w1 ⟨rfl, q1⟩
    have k1 := k0.trans q1
    clear k0 q1 s0 z0 cf cto
    have s0 := rangeAt_keep H0.out.1 k1
    have z0 := rangeAt_keep H0.out.2 k1
    obtain ⟨cf, cto⟩ := CF.out _ k1
    go_wp2_with (first | ((with_reducible refine wpList_load_h s0 Tryz.underlying97 ?_ ?_ ?_ ?_ ?_); exact I22.out; rfl; rfl; rfl) | ((with_reducible refine wpList_load_h z0 Tryz.underlying73 ?_ ?_ ?_ ?_ ?_); exact I16.out; rfl; rfl; rfl))
    go_ret
    exact ⟨ret_bool (by simp), KA.trans k1⟩
  cases M
  rotate_left
  · clear CA CB
    go_enter Tryz.func84, Tryz.ntmps84
    go_upto_region 1 with (fail)
    generalize (w.alloc (.cells #[.int .i64 sx, .int .i64 (j : Int), .int .i64 ax, .int .i64 tx, .slice At nt ct, .slice Ak nk ck, .int .i64 a, .int .i64 b, .int .i64 c, .int .i64 d, .int .i64 e, .int .i64 W, .int .i64 H, x, r, y, .int .i64 T, .int .i64 Z, u, .int .i64 sd, .int .i64 (i : Int), .int .i64 (n : Int)] 97)) = W0 at *
    have k0 := Kp.refl W0
    obtain ⟨s0, z0⟩ := H0.out
    obtain ⟨cf, cto⟩ := CF.out W0 k0
    go_wp2_with (first | ((with_reducible refine wpList_load_h s0 Tryz.underlying97 ?_ ?_ ?_ ?_ ?_); exact I22.out; rfl; rfl; rfl) | ((with_reducible refine wpList_load_h z0 Tryz.underlying73 ?_ ?_ ?_ ?_ ?_); exact I16.out; rfl; rfl; rfl))
    refine (CO.out _ (HB.out.keep (KA.trans k0))).mono ?_
    rintro e1 w1 ⟨rfl, q1⟩
    have k1 := k0.trans q1
    clear k0 q1 s0 z0 cf cto
    have s0 := rangeAt_keep H0.out.1 k1
    have z0 := rangeAt_keep H0.out.2 k1
    obtain ⟨cf, cto⟩ := CF.out _ k1
    go_wp2_with (first | ((with_reducible refine wpList_load_h s0 Tryz.underlying97 ?_ ?_ ?_ ?_ ?_); exact I22.out; rfl; rfl; rfl) | ((with_reducible refine wpList_load_h z0 Tryz.underlying73 ?_ ?_ ?_ ?_ ?_); exact I16.out; rfl; rfl; rfl))
    refine (CM.out _ (HS.out.keep (KA.trans k1))).mono ?_
    rintro e2 w2 ⟨rfl, q2⟩
    have k2 := k1.trans q2
    clear k1 q2 s0 z0 cf cto
    have s0 := rangeAt_keep H0.out.1 k2
    have z0 := rangeAt_keep H0.out.2 k2
    obtain ⟨cf, cto⟩ := CF.out _ k2
    go_wp2_with (first | ((with_reducible refine wpList_load_h s0 Tryz.underlying97 ?_ ?_ ?_ ?_ ?_); exact I22.out; rfl; rfl; rfl) | ((with_reducible refine wpList_load_h z0 Tryz.underlying73 ?_ ?_ ?_ ?_ ?_); exact I16.out; rfl; rfl; rfl))
    go_ret
    exact ⟨ret_bool (by simp), KA.trans k2⟩
  cases P
  · clear CB
    go_enter Tryz.func84, Tryz.ntmps84
    go_upto_region 1 with (fail)
    generalize (w.alloc (.cells #[.int .i64 sx, .int .i64 (j : Int), .int .i64 ax, .int .i64 tx, .slice At nt ct, .slice Ak nk ck, .int .i64 a, .int .i64 b, .int .i64 c, .int .i64 d, .int .i64 e, .int .i64 W, .int .i64 H, x, r, y, .int .i64 T, .int .i64 Z, u, .int .i64 sd, .int .i64 (i : Int), .int .i64 (n : Int)] 97)) = W0 at *
    have k0 := Kp.refl W0
    obtain ⟨s0, z0⟩ := H0.out
    obtain ⟨cf, cto⟩ := CF.out W0 k0
    go_wp2_with (first | ((with_reducible refine wpList_load_h s0 Tryz.underlying97 ?_ ?_ ?_ ?_ ?_); exact I22.out; rfl; rfl; rfl) | ((with_reducible refine wpList_load_h z0 Tryz.underlying73 ?_ ?_ ?_ ?_ ?_); exact I16.out; rfl; rfl; rfl))
    refine (CO.out _ (HB.out.keep (KA.trans k0))).mono ?_
    rintro e1 w1 ⟨rfl, q1⟩
    have k1 := k0.trans q1
    clear k0 q1 s0 z0 cf cto
    have s0 := rangeAt_keep H0.out.1 k1
    have z0 := rangeAt_keep H0.out.2 k1
    obtain ⟨cf, cto⟩ := CF.out _ k1
    go_wp2_with (first | ((with_reducible refine wpList_load_h s0 Tryz.underlying97 ?_ ?_ ?_ ?_ ?_); exact I22.out; rfl; rfl; rfl) | ((with_reducible refine wpList_load_h z0 Tryz.underlying73 ?_ ?_ ?_ ?_ ?_); exact I16.out; rfl; rfl; rfl))
    refine (CM.out _ (HS.out.keep (KA.trans k1))).mono ?_
    rintro e2 w2 ⟨rfl, q2⟩
    have k2 := k1.trans q2
    clear k1 q2 s0 z0 cf cto
    have s0 := rangeAt_keep H0.out.1 k2
    have z0 := rangeAt_keep H0.out.2 k2
    obtain ⟨cf, cto⟩ := CF.out _ k2
    go_wp2_with (first | ((with_reducible refine wpList_load_h s0 Tryz.underlying97 ?_ ?_ ?_ ?_ ?_); exact I22.out; rfl; rfl; rfl) | ((with_reducible refine wpList_load_h z0 Tryz.underlying73 ?_ ?_ ?_ ?_ ?_); exact I16.out; rfl; rfl; rfl))
    refine (CA.out _ (HT.out.keep (KA.trans k2)) (HB.out.keep (KA.trans k2)) (HS.out.keep (KA.trans k2))).mono ?_
    rintro e3 w3 ⟨rfl, q3⟩
    have k3 := k2.trans q3
    clear k2 q3 s0 z0 cf cto
    have s0 := rangeAt_keep H0.out.1 k3
    have z0 := rangeAt_keep H0.out.2 k3
    obtain ⟨cf, cto⟩ := CF.out _ k3
    go_wp2_with (first | ((with_reducible refine wpList_load_h s0 Tryz.underlying97 ?_ ?_ ?_ ?_ ?_); exact I22.out; rfl; rfl; rfl) | ((with_reducible refine wpList_load_h z0 Tryz.underlying73 ?_ ?_ ?_ ?_ ?_); exact I16.out; rfl; rfl; rfl))
    go_ret
    exact ⟨ret_bool (by simp), KA.trans k3⟩
  · skip
    go_enter Tryz.func84, Tryz.ntmps84
    go_upto_region 1 with (fail)
    generalize (w.alloc (.cells #[.int .i64 sx, .int .i64 (j : Int), .int .i64 ax, .int .i64 tx, .slice At nt ct, .slice Ak nk ck, .int .i64 a, .int .i64 b, .int .i64 c, .int .i64 d, .int .i64 e, .int .i64 W, .int .i64 H, x, r, y, .int .i64 T, .int .i64 Z, u, .int .i64 sd, .int .i64 (i : Int), .int .i64 (n : Int)] 97)) = W0 at *
    have k0 := Kp.refl W0
    obtain ⟨s0, z0⟩ := H0.out
    obtain ⟨cf, cto⟩ := CF.out W0 k0
    go_wp2_with (first | ((with_reducible refine wpList_load_h s0 Tryz.underlying97 ?_ ?_ ?_ ?_ ?_); exact I22.out; rfl; rfl; rfl) | ((with_reducible refine wpList_load_h z0 Tryz.underlying73 ?_ ?_ ?_ ?_ ?_); exact I16.out; rfl; rfl; rfl))
    refine (CO.out _ (HB.out.keep (KA.trans k0))).mono ?_
    rintro e1 w1 ⟨rfl, q1⟩
    have k1 := k0.trans q1
    clear k0 q1 s0 z0 cf cto
    have s0 := rangeAt_keep H0.out.1 k1
    have z0 := rangeAt_keep H0.out.2 k1
    obtain ⟨cf, cto⟩ := CF.out _ k1
    go_wp2_with (first | ((with_reducible refine wpList_load_h s0 Tryz.underlying97 ?_ ?_ ?_ ?_ ?_); exact I22.out; rfl; rfl; rfl) | ((with_reducible refine wpList_load_h z0 Tryz.underlying73 ?_ ?_ ?_ ?_ ?_); exact I16.out; rfl; rfl; rfl))
    refine (CM.out _ (HS.out.keep (KA.trans k1))).mono ?_
    rintro e2 w2 ⟨rfl, q2⟩
    have k2 := k1.trans q2
    clear k1 q2 s0 z0 cf cto
    have s0 := rangeAt_keep H0.out.1 k2
    have z0 := rangeAt_keep H0.out.2 k2
    obtain ⟨cf, cto⟩ := CF.out _ k2
    go_wp2_with (first | ((with_reducible refine wpList_load_h s0 Tryz.underlying97 ?_ ?_ ?_ ?_ ?_); exact I22.out; rfl; rfl; rfl) | ((with_reducible refine wpList_load_h z0 Tryz.underlying73 ?_ ?_ ?_ ?_ ?_); exact I16.out; rfl; rfl; rfl))
    refine (CA.out _ (HT.out.keep (KA.trans k2)) (HB.out.keep (KA.trans k2)) (HS.out.keep (KA.trans k2))).mono ?_
    rintro e3 w3 ⟨rfl, q3⟩
    have k3 := k2.trans q3
    clear k2 q3 s0 z0 cf cto
    have s0 := rangeAt_keep H0.out.1 k3
    have z0 := rangeAt_keep H0.out.2 k3
    obtain ⟨cf, cto⟩ := CF.out _ k3
    go_wp2_with (first | ((with_reducible refine wpList_load_h s0 Tryz.underlying97 ?_ ?_ ?_ ?_ ?_); exact I22.out; rfl; rfl; rfl) | ((with_reducible refine wpList_load_h z0 Tryz.underlying73 ?_ ?_ ?_ ?_ ?_); exact I16.out; rfl; rfl; rfl))
    refine (CB.out _ (HT.out.keep (KA.trans k3)) (HB.out.keep (KA.trans k3)) (HS.out.keep (KA.trans k3))).mono ?_
    rintro e4 w4 ⟨rfl, q4⟩
    have k4 := k3.trans q4
    clear k3 q4 s0 z0 cf cto
    have s0 := rangeAt_keep H0.out.1 k4
    have z0 := rangeAt_keep H0.out.2 k4
    obtain ⟨cf, cto⟩ := CF.out _ k4
    go_wp2_with (first | ((with_reducible refine wpList_load_h s0 Tryz.underlying97 ?_ ?_ ?_ ?_ ?_); exact I22.out; rfl; rfl; rfl) | ((with_reducible refine wpList_load_h z0 Tryz.underlying73 ?_ ?_ ?_ ?_ ?_); exact I16.out; rfl; rfl; rfl))
    go_ret
    exact ⟨ret_bool (by simp), KA.trans k4⟩

set_option maxRecDepth 100000 in
set_option maxHeartbeats 4000000 in
theorem escape_any (At Ak : Option Addr) (nt nk ct ck : Nat) (l : List Ter) (m : List Knd) (a b c d e W H : Int) (x r y : Value) (lt lr ld : List Int) (T Z : Int) (u : Value) (us : List Uni) (sx ax tx sd : Int) (j i n : Nat) (w : World) (ht : Tab w) (hB : BrdAt w At Ak nt nk l m x r y lt lr ld) (hS : StaAt w u us) (hok : brdOk ⟨l, m, a, b, c, d, e⟩ W H lt lr ld = true) (hst : staOk ⟨l, m, a, b, c, d, e⟩ W H lt T Z us = true) (hj : j < m.length) (hi : i < lt.length) (hn : n < lt.length) :
    Calls Tryz.prog 59 #[.agg #[.int .i64 sx, .int .i64 (j : Int), .int .i64 ax, .int .i64 tx, .slice At nt ct, .slice Ak nk ck, .int .i64 a, .int .i64 b, .int .i64 c, .int .i64 d, .int .i64 e, .int .i64 W, .int .i64 H, x, r, y, .int .i64 T, .int .i64 Z, u, .int .i64 sd, .int .i64 (i : Int), .int .i64 (n : Int)]] w fun e' w' => e' = .returned (.bool (opnB l lt j n && (!(ownN us n == sd) && !zonB l m lt lr ld W us sd n))) ∧ Kp w w' := by
  have hlen := mapOk_len (brdOk_map hok)
  have KA : Kp w (w.alloc (.cells #[.int .i64 sx, .int .i64 (j : Int), .int .i64 ax, .int .i64 tx, .slice At nt ct, .slice Ak nk ck, .int .i64 a, .int .i64 b, .int .i64 c, .int .i64 d, .int .i64 e, .int .i64 W, .int .i64 H, x, r, y, .int .i64 T, .int .i64 Z, u, .int .i64 sd, .int .i64 (i : Int), .int .i64 (n : Int)] 97)) := (Kp.refl w).alloc _
  have s0 : World.rangeAt (w.alloc (.cells #[.int .i64 sx, .int .i64 (j : Int), .int .i64 ax, .int .i64 tx, .slice At nt ct, .slice Ak nk ck, .int .i64 a, .int .i64 b, .int .i64 c, .int .i64 d, .int .i64 e, .int .i64 W, .int .i64 H, x, r, y, .int .i64 T, .int .i64 Z, u, .int .i64 sd, .int .i64 (i : Int), .int .i64 (n : Int)] 97)) w.heap.size 0 [.int .i64 sx, .int .i64 (j : Int), .int .i64 ax, .int .i64 tx, .slice At nt ct, .slice Ak nk ck, .int .i64 a, .int .i64 b, .int .i64 c, .int .i64 d, .int .i64 e, .int .i64 W, .int .i64 H, x, r, y, .int .i64 T, .int .i64 Z, u, .int .i64 sd, .int .i64 (i : Int), .int .i64 (n : Int)] := rangeAt_new w [.int .i64 sx, .int .i64 (j : Int), .int .i64 ax, .int .i64 tx, .slice At nt ct, .slice Ak nk ck, .int .i64 a, .int .i64 b, .int .i64 c, .int .i64 d, .int .i64 e, .int .i64 W, .int .i64 H, x, r, y, .int .i64 T, .int .i64 Z, u, .int .i64 sd, .int .i64 (i : Int), .int .i64 (n : Int)] 97
  have z0 : World.rangeAt (w.alloc (.cells #[.int .i64 sx, .int .i64 (j : Int), .int .i64 ax, .int .i64 tx, .slice At nt ct, .slice Ak nk ck, .int .i64 a, .int .i64 b, .int .i64 c, .int .i64 d, .int .i64 e, .int .i64 W, .int .i64 H, x, r, y, .int .i64 T, .int .i64 Z, u, .int .i64 sd, .int .i64 (i : Int), .int .i64 (n : Int)] 97)) w.heap.size 4 [.slice At nt ct, .slice Ak nk ck, .int .i64 a, .int .i64 b, .int .i64 c, .int .i64 d, .int .i64 e, .int .i64 W, .int .i64 H, x, r, y, .int .i64 T, .int .i64 Z, u, .int .i64 sd] := rangeAt_part s0 4 16
  have H0 := Lib.hid (And.intro s0 z0)
  have CF : Hid (∀ w', Kp (w.alloc (.cells #[.int .i64 sx, .int .i64 (j : Int), .int .i64 ax, .int .i64 tx, .slice At nt ct, .slice Ak nk ck, .int .i64 a, .int .i64 b, .int .i64 c, .int .i64 d, .int .i64 e, .int .i64 W, .int .i64 H, x, r, y, .int .i64 T, .int .i64 Z, u, .int .i64 sd, .int .i64 (i : Int), .int .i64 (n : Int)] 97)) w' → w'.cell? ⟨w.heap.size, 20, none⟩ = some (.int .i64 (i : Int)) ∧ w'.cell? ⟨w.heap.size, 21, none⟩ = some (.int .i64 (n : Int))) := Lib.hid fun w' k => ⟨k.cell (rangeAt_at s0 20 _ rfl), k.cell (rangeAt_at s0 21 _ rfl)⟩
  have I22 : Hid ((Tryz.prog.info? 97).map (·.size) = some 22) := Lib.hid (by kernel_rfl)
  have I16 : Hid ((Tryz.prog.info? 73).map (·.size) = some 16) := Lib.hid (by kernel_rfl)
  have HT := Lib.hid ht
  have HB := Lib.hid hB
  have HS := Lib.hid hS
  have CO := Lib.hid (fun (w : World) hB => stepOpen_any At Ak nt nk ct ck l m a b c d e W H x r y lt lr ld T Z u sx ax tx sd j i n w hB hok hj hn)
  have CM := Lib.hid (fun (w : World) hS => meets_any At Ak nt nk ct ck l m a b c d e W H x r y lt T Z u us sx ax tx sd j i n w hS hst)
  have CA := Lib.hid (fun (w : World) ht hB hS => has_zone At Ak nt nk ct ck l m a b c d e W H x r y lt lr ld T Z u us sd (i : Int) w ht hB hS hok hst (onI_mk (by omega) (by omega)))
  have CB := Lib.hid (fun (w : World) ht hB hS => has_zone At Ak nt nk ct ck l m a b c d e W H x r y lt lr ld T Z u us sd (n : Int) w ht hB hS hok hst (onI_mk (by omega) (by omega)))
  generalize opnB l lt j n = O at CO ⊢
  generalize (ownN us n == sd) = M at CM ⊢
  generalize zonB l m lt lr ld W us sd (i : Int) = P at CA ⊢
  generalize zonB l m lt lr ld W us sd (n : Int) = Q at CB ⊢
  clear ht hB hS hok hst hj hi hn hlen s0 z0
  cases O
  · clear CM CA CB
    go_enter Tryz.func59, Tryz.ntmps59
    go_upto_region 1 with (fail)
    generalize (w.alloc (.cells #[.int .i64 sx, .int .i64 (j : Int), .int .i64 ax, .int .i64 tx, .slice At nt ct, .slice Ak nk ck, .int .i64 a, .int .i64 b, .int .i64 c, .int .i64 d, .int .i64 e, .int .i64 W, .int .i64 H, x, r, y, .int .i64 T, .int .i64 Z, u, .int .i64 sd, .int .i64 (i : Int), .int .i64 (n : Int)] 97)) = W0 at *
    have k0 := Kp.refl W0
    obtain ⟨s0, z0⟩ := H0.out
    obtain ⟨cf, cto⟩ := CF.out W0 k0
    go_wp2_with (first | ((with_reducible refine wpList_load_h s0 Tryz.underlying97 ?_ ?_ ?_ ?_ ?_); exact I22.out; rfl; rfl; rfl) | ((with_reducible refine wpList_load_h z0 Tryz.underlying73 ?_ ?_ ?_ ?_ ?_); exact I16.out; rfl; rfl; rfl))
    refine (CO.out _ (HB.out.keep (KA.trans k0))).mono ?_
    rintro e1 w1 ⟨rfl, q1⟩
    have k1 := k0.trans q1
    clear k0 q1 s0 z0 cf cto
    have s0 := rangeAt_keep H0.out.1 k1
    have z0 := rangeAt_keep H0.out.2 k1
    obtain ⟨cf, cto⟩ := CF.out _ k1
    go_wp2_with (first | ((with_reducible refine wpList_load_h s0 Tryz.underlying97 ?_ ?_ ?_ ?_ ?_); exact I22.out; rfl; rfl; rfl) | ((with_reducible refine wpList_load_h z0 Tryz.underlying73 ?_ ?_ ?_ ?_ ?_); exact I16.out; rfl; rfl; rfl))
    go_ret
    exact ⟨ret_bool (by simp), KA.trans k1⟩
  cases M
  rotate_left
  · clear CA CB
    go_enter Tryz.func59, Tryz.ntmps59
    go_upto_region 1 with (fail)
    generalize (w.alloc (.cells #[.int .i64 sx, .int .i64 (j : Int), .int .i64 ax, .int .i64 tx, .slice At nt ct, .slice Ak nk ck, .int .i64 a, .int .i64 b, .int .i64 c, .int .i64 d, .int .i64 e, .int .i64 W, .int .i64 H, x, r, y, .int .i64 T, .int .i64 Z, u, .int .i64 sd, .int .i64 (i : Int), .int .i64 (n : Int)] 97)) = W0 at *
    have k0 := Kp.refl W0
    obtain ⟨s0, z0⟩ := H0.out
    obtain ⟨cf, cto⟩ := CF.out W0 k0
    go_wp2_with (first | ((with_reducible refine wpList_load_h s0 Tryz.underlying97 ?_ ?_ ?_ ?_ ?_); exact I22.out; rfl; rfl; rfl) | ((with_reducible refine wpList_load_h z0 Tryz.underlying73 ?_ ?_ ?_ ?_ ?_); exact I16.out; rfl; rfl; rfl))
    refine (CO.out _ (HB.out.keep (KA.trans k0))).mono ?_
    rintro e1 w1 ⟨rfl, q1⟩
    have k1 := k0.trans q1
    clear k0 q1 s0 z0 cf cto
    have s0 := rangeAt_keep H0.out.1 k1
    have z0 := rangeAt_keep H0.out.2 k1
    obtain ⟨cf, cto⟩ := CF.out _ k1
    go_wp2_with (first | ((with_reducible refine wpList_load_h s0 Tryz.underlying97 ?_ ?_ ?_ ?_ ?_); exact I22.out; rfl; rfl; rfl) | ((with_reducible refine wpList_load_h z0 Tryz.underlying73 ?_ ?_ ?_ ?_ ?_); exact I16.out; rfl; rfl; rfl))
    refine (CM.out _ (HS.out.keep (KA.trans k1))).mono ?_
    rintro e2 w2 ⟨rfl, q2⟩
    have k2 := k1.trans q2
    clear k1 q2 s0 z0 cf cto
    have s0 := rangeAt_keep H0.out.1 k2
    have z0 := rangeAt_keep H0.out.2 k2
    obtain ⟨cf, cto⟩ := CF.out _ k2
    go_wp2_with (first | ((with_reducible refine wpList_load_h s0 Tryz.underlying97 ?_ ?_ ?_ ?_ ?_); exact I22.out; rfl; rfl; rfl) | ((with_reducible refine wpList_load_h z0 Tryz.underlying73 ?_ ?_ ?_ ?_ ?_); exact I16.out; rfl; rfl; rfl))
    go_ret
    exact ⟨ret_bool (by simp), KA.trans k2⟩
  · clear CA
    go_enter Tryz.func59, Tryz.ntmps59
    go_upto_region 1 with (fail)
    generalize (w.alloc (.cells #[.int .i64 sx, .int .i64 (j : Int), .int .i64 ax, .int .i64 tx, .slice At nt ct, .slice Ak nk ck, .int .i64 a, .int .i64 b, .int .i64 c, .int .i64 d, .int .i64 e, .int .i64 W, .int .i64 H, x, r, y, .int .i64 T, .int .i64 Z, u, .int .i64 sd, .int .i64 (i : Int), .int .i64 (n : Int)] 97)) = W0 at *
    have k0 := Kp.refl W0
    obtain ⟨s0, z0⟩ := H0.out
    obtain ⟨cf, cto⟩ := CF.out W0 k0
    go_wp2_with (first | ((with_reducible refine wpList_load_h s0 Tryz.underlying97 ?_ ?_ ?_ ?_ ?_); exact I22.out; rfl; rfl; rfl) | ((with_reducible refine wpList_load_h z0 Tryz.underlying73 ?_ ?_ ?_ ?_ ?_); exact I16.out; rfl; rfl; rfl))
    refine (CO.out _ (HB.out.keep (KA.trans k0))).mono ?_
    rintro e1 w1 ⟨rfl, q1⟩
    have k1 := k0.trans q1
    clear k0 q1 s0 z0 cf cto
    have s0 := rangeAt_keep H0.out.1 k1
    have z0 := rangeAt_keep H0.out.2 k1
    obtain ⟨cf, cto⟩ := CF.out _ k1
    go_wp2_with (first | ((with_reducible refine wpList_load_h s0 Tryz.underlying97 ?_ ?_ ?_ ?_ ?_); exact I22.out; rfl; rfl; rfl) | ((with_reducible refine wpList_load_h z0 Tryz.underlying73 ?_ ?_ ?_ ?_ ?_); exact I16.out; rfl; rfl; rfl))
    refine (CM.out _ (HS.out.keep (KA.trans k1))).mono ?_
    rintro e2 w2 ⟨rfl, q2⟩
    have k2 := k1.trans q2
    clear k1 q2 s0 z0 cf cto
    have s0 := rangeAt_keep H0.out.1 k2
    have z0 := rangeAt_keep H0.out.2 k2
    obtain ⟨cf, cto⟩ := CF.out _ k2
    go_wp2_with (first | ((with_reducible refine wpList_load_h s0 Tryz.underlying97 ?_ ?_ ?_ ?_ ?_); exact I22.out; rfl; rfl; rfl) | ((with_reducible refine wpList_load_h z0 Tryz.underlying73 ?_ ?_ ?_ ?_ ?_); exact I16.out; rfl; rfl; rfl))
    refine (CB.out _ (HT.out.keep (KA.trans k2)) (HB.out.keep (KA.trans k2)) (HS.out.keep (KA.trans k2))).mono ?_
    rintro e3 w3 ⟨rfl, q3⟩
    have k3 := k2.trans q3
    clear k2 q3 s0 z0 cf cto
    have s0 := rangeAt_keep H0.out.1 k3
    have z0 := rangeAt_keep H0.out.2 k3
    obtain ⟨cf, cto⟩ := CF.out _ k3
    go_wp2_with (first | ((with_reducible refine wpList_load_h s0 Tryz.underlying97 ?_ ?_ ?_ ?_ ?_); exact I22.out; rfl; rfl; rfl) | ((with_reducible refine wpList_load_h z0 Tryz.underlying73 ?_ ?_ ?_ ?_ ?_); exact I16.out; rfl; rfl; rfl))
    go_ret
    exact ⟨ret_bool (by simp), KA.trans k3⟩

end Go.Proofs.YtiojmbbdcccokaaGreatDoor
