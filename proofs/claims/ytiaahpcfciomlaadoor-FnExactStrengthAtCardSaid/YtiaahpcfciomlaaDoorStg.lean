/-
  StrengthAt of both sides. Nothing that was there is changed. The named variables hold what the program's text lays.
-/
import Derived.Test.YtiaahpcfciomlaaDoorUnL
import Derived.Test.YtiaahpcfciomlaaDoorUnH
namespace Go.Proofs.YtiaahpcfciomlaaDoor
open Go.RowKit

theorem keepy15 {W0 w w1 : World} {p0 p1 p2 p3 p4 p5 p6 p7 p8 p9 p10 p11 p12 p13 p14 : Addr} {v0 v1 v2 v3 v4 v5 v6 v7 v8 v9 v10 v11 v12 v13 v14 : Value} (k : Kp w w1) (h : w.cell? p0 = some v0 ∧ w.cell? p1 = some v1 ∧ w.cell? p2 = some v2 ∧ w.cell? p3 = some v3 ∧ w.cell? p4 = some v4 ∧ w.cell? p5 = some v5 ∧ w.cell? p6 = some v6 ∧ w.cell? p7 = some v7 ∧ w.cell? p8 = some v8 ∧ w.cell? p9 = some v9 ∧ w.cell? p10 = some v10 ∧ w.cell? p11 = some v11 ∧ w.cell? p12 = some v12 ∧ w.cell? p13 = some v13 ∧ w.cell? p14 = some v14 ∧ Kp W0 w) : w1.cell? p0 = some v0 ∧ w1.cell? p1 = some v1 ∧ w1.cell? p2 = some v2 ∧ w1.cell? p3 = some v3 ∧ w1.cell? p4 = some v4 ∧ w1.cell? p5 = some v5 ∧ w1.cell? p6 = some v6 ∧ w1.cell? p7 = some v7 ∧ w1.cell? p8 = some v8 ∧ w1.cell? p9 = some v9 ∧ w1.cell? p10 = some v10 ∧ w1.cell? p11 = some v11 ∧ w1.cell? p12 = some v12 ∧ w1.cell? p13 = some v13 ∧ w1.cell? p14 = some v14 ∧ Kp W0 w1 :=
  ⟨k.cell h.1, k.cell h.2.1, k.cell h.2.2.1, k.cell h.2.2.2.1, k.cell h.2.2.2.2.1, k.cell h.2.2.2.2.2.1, k.cell h.2.2.2.2.2.2.1, k.cell h.2.2.2.2.2.2.2.1, k.cell h.2.2.2.2.2.2.2.2.1, k.cell h.2.2.2.2.2.2.2.2.2.1, k.cell h.2.2.2.2.2.2.2.2.2.2.1, k.cell h.2.2.2.2.2.2.2.2.2.2.2.1, k.cell h.2.2.2.2.2.2.2.2.2.2.2.2.1, k.cell h.2.2.2.2.2.2.2.2.2.2.2.2.2.1, k.cell h.2.2.2.2.2.2.2.2.2.2.2.2.2.2.1, h.2.2.2.2.2.2.2.2.2.2.2.2.2.2.2.trans k⟩
theorem drewy15 {W0 w : World} {p0 p1 p2 p3 p4 p5 p6 p7 p8 p9 p10 p11 p12 p13 p14 : Addr} {v0 v1 v2 v3 v4 v5 v6 v7 v8 v9 v10 v11 v12 v13 v14 : Value} (h : w.cell? p0 = some v0 ∧ w.cell? p1 = some v1 ∧ w.cell? p2 = some v2 ∧ w.cell? p3 = some v3 ∧ w.cell? p4 = some v4 ∧ w.cell? p5 = some v5 ∧ w.cell? p6 = some v6 ∧ w.cell? p7 = some v7 ∧ w.cell? p8 = some v8 ∧ w.cell? p9 = some v9 ∧ w.cell? p10 = some v10 ∧ w.cell? p11 = some v11 ∧ w.cell? p12 = some v12 ∧ w.cell? p13 = some v13 ∧ w.cell? p14 = some v14 ∧ Kp W0 w) : w.drew.cell? p0 = some v0 ∧ w.drew.cell? p1 = some v1 ∧ w.drew.cell? p2 = some v2 ∧ w.drew.cell? p3 = some v3 ∧ w.drew.cell? p4 = some v4 ∧ w.drew.cell? p5 = some v5 ∧ w.drew.cell? p6 = some v6 ∧ w.drew.cell? p7 = some v7 ∧ w.drew.cell? p8 = some v8 ∧ w.drew.cell? p9 = some v9 ∧ w.drew.cell? p10 = some v10 ∧ w.drew.cell? p11 = some v11 ∧ w.drew.cell? p12 = some v12 ∧ w.drew.cell? p13 = some v13 ∧ w.drew.cell? p14 = some v14 ∧ Kp W0 w.drew :=
  ⟨h.1, h.2.1, h.2.2.1, h.2.2.2.1, h.2.2.2.2.1, h.2.2.2.2.2.1, h.2.2.2.2.2.2.1, h.2.2.2.2.2.2.2.1, h.2.2.2.2.2.2.2.2.1, h.2.2.2.2.2.2.2.2.2.1, h.2.2.2.2.2.2.2.2.2.2.1, h.2.2.2.2.2.2.2.2.2.2.2.1, h.2.2.2.2.2.2.2.2.2.2.2.2.1, h.2.2.2.2.2.2.2.2.2.2.2.2.2.1, h.2.2.2.2.2.2.2.2.2.2.2.2.2.2.1, h.2.2.2.2.2.2.2.2.2.2.2.2.2.2.2.drew⟩
theorem keepy17 {W0 w w1 : World} {p0 p1 p2 p3 p4 p5 p6 p7 p8 p9 p10 p11 p12 p13 p14 p15 p16 : Addr} {v0 v1 v2 v3 v4 v5 v6 v7 v8 v9 v10 v11 v12 v13 v14 v15 v16 : Value} (k : Kp w w1) (h : w.cell? p0 = some v0 ∧ w.cell? p1 = some v1 ∧ w.cell? p2 = some v2 ∧ w.cell? p3 = some v3 ∧ w.cell? p4 = some v4 ∧ w.cell? p5 = some v5 ∧ w.cell? p6 = some v6 ∧ w.cell? p7 = some v7 ∧ w.cell? p8 = some v8 ∧ w.cell? p9 = some v9 ∧ w.cell? p10 = some v10 ∧ w.cell? p11 = some v11 ∧ w.cell? p12 = some v12 ∧ w.cell? p13 = some v13 ∧ w.cell? p14 = some v14 ∧ w.cell? p15 = some v15 ∧ w.cell? p16 = some v16 ∧ Kp W0 w) : w1.cell? p0 = some v0 ∧ w1.cell? p1 = some v1 ∧ w1.cell? p2 = some v2 ∧ w1.cell? p3 = some v3 ∧ w1.cell? p4 = some v4 ∧ w1.cell? p5 = some v5 ∧ w1.cell? p6 = some v6 ∧ w1.cell? p7 = some v7 ∧ w1.cell? p8 = some v8 ∧ w1.cell? p9 = some v9 ∧ w1.cell? p10 = some v10 ∧ w1.cell? p11 = some v11 ∧ w1.cell? p12 = some v12 ∧ w1.cell? p13 = some v13 ∧ w1.cell? p14 = some v14 ∧ w1.cell? p15 = some v15 ∧ w1.cell? p16 = some v16 ∧ Kp W0 w1 :=
  ⟨k.cell h.1, k.cell h.2.1, k.cell h.2.2.1, k.cell h.2.2.2.1, k.cell h.2.2.2.2.1, k.cell h.2.2.2.2.2.1, k.cell h.2.2.2.2.2.2.1, k.cell h.2.2.2.2.2.2.2.1, k.cell h.2.2.2.2.2.2.2.2.1, k.cell h.2.2.2.2.2.2.2.2.2.1, k.cell h.2.2.2.2.2.2.2.2.2.2.1, k.cell h.2.2.2.2.2.2.2.2.2.2.2.1, k.cell h.2.2.2.2.2.2.2.2.2.2.2.2.1, k.cell h.2.2.2.2.2.2.2.2.2.2.2.2.2.1, k.cell h.2.2.2.2.2.2.2.2.2.2.2.2.2.2.1, k.cell h.2.2.2.2.2.2.2.2.2.2.2.2.2.2.2.1, k.cell h.2.2.2.2.2.2.2.2.2.2.2.2.2.2.2.2.1, h.2.2.2.2.2.2.2.2.2.2.2.2.2.2.2.2.2.trans k⟩
theorem drewy17 {W0 w : World} {p0 p1 p2 p3 p4 p5 p6 p7 p8 p9 p10 p11 p12 p13 p14 p15 p16 : Addr} {v0 v1 v2 v3 v4 v5 v6 v7 v8 v9 v10 v11 v12 v13 v14 v15 v16 : Value} (h : w.cell? p0 = some v0 ∧ w.cell? p1 = some v1 ∧ w.cell? p2 = some v2 ∧ w.cell? p3 = some v3 ∧ w.cell? p4 = some v4 ∧ w.cell? p5 = some v5 ∧ w.cell? p6 = some v6 ∧ w.cell? p7 = some v7 ∧ w.cell? p8 = some v8 ∧ w.cell? p9 = some v9 ∧ w.cell? p10 = some v10 ∧ w.cell? p11 = some v11 ∧ w.cell? p12 = some v12 ∧ w.cell? p13 = some v13 ∧ w.cell? p14 = some v14 ∧ w.cell? p15 = some v15 ∧ w.cell? p16 = some v16 ∧ Kp W0 w) : w.drew.cell? p0 = some v0 ∧ w.drew.cell? p1 = some v1 ∧ w.drew.cell? p2 = some v2 ∧ w.drew.cell? p3 = some v3 ∧ w.drew.cell? p4 = some v4 ∧ w.drew.cell? p5 = some v5 ∧ w.drew.cell? p6 = some v6 ∧ w.drew.cell? p7 = some v7 ∧ w.drew.cell? p8 = some v8 ∧ w.drew.cell? p9 = some v9 ∧ w.drew.cell? p10 = some v10 ∧ w.drew.cell? p11 = some v11 ∧ w.drew.cell? p12 = some v12 ∧ w.drew.cell? p13 = some v13 ∧ w.drew.cell? p14 = some v14 ∧ w.drew.cell? p15 = some v15 ∧ w.drew.cell? p16 = some v16 ∧ Kp W0 w.drew :=
  ⟨h.1, h.2.1, h.2.2.1, h.2.2.2.1, h.2.2.2.2.1, h.2.2.2.2.2.1, h.2.2.2.2.2.2.1, h.2.2.2.2.2.2.2.1, h.2.2.2.2.2.2.2.2.1, h.2.2.2.2.2.2.2.2.2.1, h.2.2.2.2.2.2.2.2.2.2.1, h.2.2.2.2.2.2.2.2.2.2.2.1, h.2.2.2.2.2.2.2.2.2.2.2.2.1, h.2.2.2.2.2.2.2.2.2.2.2.2.2.1, h.2.2.2.2.2.2.2.2.2.2.2.2.2.2.1, h.2.2.2.2.2.2.2.2.2.2.2.2.2.2.2.1, h.2.2.2.2.2.2.2.2.2.2.2.2.2.2.2.2.1, h.2.2.2.2.2.2.2.2.2.2.2.2.2.2.2.2.2.drew⟩
theorem keepy18 {W0 w w1 : World} {p0 p1 p2 p3 p4 p5 p6 p7 p8 p9 p10 p11 p12 p13 p14 p15 p16 p17 : Addr} {v0 v1 v2 v3 v4 v5 v6 v7 v8 v9 v10 v11 v12 v13 v14 v15 v16 v17 : Value} (k : Kp w w1) (h : w.cell? p0 = some v0 ∧ w.cell? p1 = some v1 ∧ w.cell? p2 = some v2 ∧ w.cell? p3 = some v3 ∧ w.cell? p4 = some v4 ∧ w.cell? p5 = some v5 ∧ w.cell? p6 = some v6 ∧ w.cell? p7 = some v7 ∧ w.cell? p8 = some v8 ∧ w.cell? p9 = some v9 ∧ w.cell? p10 = some v10 ∧ w.cell? p11 = some v11 ∧ w.cell? p12 = some v12 ∧ w.cell? p13 = some v13 ∧ w.cell? p14 = some v14 ∧ w.cell? p15 = some v15 ∧ w.cell? p16 = some v16 ∧ w.cell? p17 = some v17 ∧ Kp W0 w) : w1.cell? p0 = some v0 ∧ w1.cell? p1 = some v1 ∧ w1.cell? p2 = some v2 ∧ w1.cell? p3 = some v3 ∧ w1.cell? p4 = some v4 ∧ w1.cell? p5 = some v5 ∧ w1.cell? p6 = some v6 ∧ w1.cell? p7 = some v7 ∧ w1.cell? p8 = some v8 ∧ w1.cell? p9 = some v9 ∧ w1.cell? p10 = some v10 ∧ w1.cell? p11 = some v11 ∧ w1.cell? p12 = some v12 ∧ w1.cell? p13 = some v13 ∧ w1.cell? p14 = some v14 ∧ w1.cell? p15 = some v15 ∧ w1.cell? p16 = some v16 ∧ w1.cell? p17 = some v17 ∧ Kp W0 w1 :=
  ⟨k.cell h.1, k.cell h.2.1, k.cell h.2.2.1, k.cell h.2.2.2.1, k.cell h.2.2.2.2.1, k.cell h.2.2.2.2.2.1, k.cell h.2.2.2.2.2.2.1, k.cell h.2.2.2.2.2.2.2.1, k.cell h.2.2.2.2.2.2.2.2.1, k.cell h.2.2.2.2.2.2.2.2.2.1, k.cell h.2.2.2.2.2.2.2.2.2.2.1, k.cell h.2.2.2.2.2.2.2.2.2.2.2.1, k.cell h.2.2.2.2.2.2.2.2.2.2.2.2.1, k.cell h.2.2.2.2.2.2.2.2.2.2.2.2.2.1, k.cell h.2.2.2.2.2.2.2.2.2.2.2.2.2.2.1, k.cell h.2.2.2.2.2.2.2.2.2.2.2.2.2.2.2.1, k.cell h.2.2.2.2.2.2.2.2.2.2.2.2.2.2.2.2.1, k.cell h.2.2.2.2.2.2.2.2.2.2.2.2.2.2.2.2.2.1, h.2.2.2.2.2.2.2.2.2.2.2.2.2.2.2.2.2.2.trans k⟩
theorem drewy18 {W0 w : World} {p0 p1 p2 p3 p4 p5 p6 p7 p8 p9 p10 p11 p12 p13 p14 p15 p16 p17 : Addr} {v0 v1 v2 v3 v4 v5 v6 v7 v8 v9 v10 v11 v12 v13 v14 v15 v16 v17 : Value} (h : w.cell? p0 = some v0 ∧ w.cell? p1 = some v1 ∧ w.cell? p2 = some v2 ∧ w.cell? p3 = some v3 ∧ w.cell? p4 = some v4 ∧ w.cell? p5 = some v5 ∧ w.cell? p6 = some v6 ∧ w.cell? p7 = some v7 ∧ w.cell? p8 = some v8 ∧ w.cell? p9 = some v9 ∧ w.cell? p10 = some v10 ∧ w.cell? p11 = some v11 ∧ w.cell? p12 = some v12 ∧ w.cell? p13 = some v13 ∧ w.cell? p14 = some v14 ∧ w.cell? p15 = some v15 ∧ w.cell? p16 = some v16 ∧ w.cell? p17 = some v17 ∧ Kp W0 w) : w.drew.cell? p0 = some v0 ∧ w.drew.cell? p1 = some v1 ∧ w.drew.cell? p2 = some v2 ∧ w.drew.cell? p3 = some v3 ∧ w.drew.cell? p4 = some v4 ∧ w.drew.cell? p5 = some v5 ∧ w.drew.cell? p6 = some v6 ∧ w.drew.cell? p7 = some v7 ∧ w.drew.cell? p8 = some v8 ∧ w.drew.cell? p9 = some v9 ∧ w.drew.cell? p10 = some v10 ∧ w.drew.cell? p11 = some v11 ∧ w.drew.cell? p12 = some v12 ∧ w.drew.cell? p13 = some v13 ∧ w.drew.cell? p14 = some v14 ∧ w.drew.cell? p15 = some v15 ∧ w.drew.cell? p16 = some v16 ∧ w.drew.cell? p17 = some v17 ∧ Kp W0 w.drew :=
  ⟨h.1, h.2.1, h.2.2.1, h.2.2.2.1, h.2.2.2.2.1, h.2.2.2.2.2.1, h.2.2.2.2.2.2.1, h.2.2.2.2.2.2.2.1, h.2.2.2.2.2.2.2.2.1, h.2.2.2.2.2.2.2.2.2.1, h.2.2.2.2.2.2.2.2.2.2.1, h.2.2.2.2.2.2.2.2.2.2.2.1, h.2.2.2.2.2.2.2.2.2.2.2.2.1, h.2.2.2.2.2.2.2.2.2.2.2.2.2.1, h.2.2.2.2.2.2.2.2.2.2.2.2.2.2.1, h.2.2.2.2.2.2.2.2.2.2.2.2.2.2.2.1, h.2.2.2.2.2.2.2.2.2.2.2.2.2.2.2.2.1, h.2.2.2.2.2.2.2.2.2.2.2.2.2.2.2.2.2.1, h.2.2.2.2.2.2.2.2.2.2.2.2.2.2.2.2.2.2.drew⟩
theorem keepy20 {W0 w w1 : World} {p0 p1 p2 p3 p4 p5 p6 p7 p8 p9 p10 p11 p12 p13 p14 p15 p16 p17 p18 p19 : Addr} {v0 v1 v2 v3 v4 v5 v6 v7 v8 v9 v10 v11 v12 v13 v14 v15 v16 v17 v18 v19 : Value} (k : Kp w w1) (h : w.cell? p0 = some v0 ∧ w.cell? p1 = some v1 ∧ w.cell? p2 = some v2 ∧ w.cell? p3 = some v3 ∧ w.cell? p4 = some v4 ∧ w.cell? p5 = some v5 ∧ w.cell? p6 = some v6 ∧ w.cell? p7 = some v7 ∧ w.cell? p8 = some v8 ∧ w.cell? p9 = some v9 ∧ w.cell? p10 = some v10 ∧ w.cell? p11 = some v11 ∧ w.cell? p12 = some v12 ∧ w.cell? p13 = some v13 ∧ w.cell? p14 = some v14 ∧ w.cell? p15 = some v15 ∧ w.cell? p16 = some v16 ∧ w.cell? p17 = some v17 ∧ w.cell? p18 = some v18 ∧ w.cell? p19 = some v19 ∧ Kp W0 w) : w1.cell? p0 = some v0 ∧ w1.cell? p1 = some v1 ∧ w1.cell? p2 = some v2 ∧ w1.cell? p3 = some v3 ∧ w1.cell? p4 = some v4 ∧ w1.cell? p5 = some v5 ∧ w1.cell? p6 = some v6 ∧ w1.cell? p7 = some v7 ∧ w1.cell? p8 = some v8 ∧ w1.cell? p9 = some v9 ∧ w1.cell? p10 = some v10 ∧ w1.cell? p11 = some v11 ∧ w1.cell? p12 = some v12 ∧ w1.cell? p13 = some v13 ∧ w1.cell? p14 = some v14 ∧ w1.cell? p15 = some v15 ∧ w1.cell? p16 = some v16 ∧ w1.cell? p17 = some v17 ∧ w1.cell? p18 = some v18 ∧ w1.cell? p19 = some v19 ∧ Kp W0 w1 :=
  ⟨k.cell h.1, k.cell h.2.1, k.cell h.2.2.1, k.cell h.2.2.2.1, k.cell h.2.2.2.2.1, k.cell h.2.2.2.2.2.1, k.cell h.2.2.2.2.2.2.1, k.cell h.2.2.2.2.2.2.2.1, k.cell h.2.2.2.2.2.2.2.2.1, k.cell h.2.2.2.2.2.2.2.2.2.1, k.cell h.2.2.2.2.2.2.2.2.2.2.1, k.cell h.2.2.2.2.2.2.2.2.2.2.2.1, k.cell h.2.2.2.2.2.2.2.2.2.2.2.2.1, k.cell h.2.2.2.2.2.2.2.2.2.2.2.2.2.1, k.cell h.2.2.2.2.2.2.2.2.2.2.2.2.2.2.1, k.cell h.2.2.2.2.2.2.2.2.2.2.2.2.2.2.2.1, k.cell h.2.2.2.2.2.2.2.2.2.2.2.2.2.2.2.2.1, k.cell h.2.2.2.2.2.2.2.2.2.2.2.2.2.2.2.2.2.1, k.cell h.2.2.2.2.2.2.2.2.2.2.2.2.2.2.2.2.2.2.1, k.cell h.2.2.2.2.2.2.2.2.2.2.2.2.2.2.2.2.2.2.2.1, h.2.2.2.2.2.2.2.2.2.2.2.2.2.2.2.2.2.2.2.2.trans k⟩
theorem drewy20 {W0 w : World} {p0 p1 p2 p3 p4 p5 p6 p7 p8 p9 p10 p11 p12 p13 p14 p15 p16 p17 p18 p19 : Addr} {v0 v1 v2 v3 v4 v5 v6 v7 v8 v9 v10 v11 v12 v13 v14 v15 v16 v17 v18 v19 : Value} (h : w.cell? p0 = some v0 ∧ w.cell? p1 = some v1 ∧ w.cell? p2 = some v2 ∧ w.cell? p3 = some v3 ∧ w.cell? p4 = some v4 ∧ w.cell? p5 = some v5 ∧ w.cell? p6 = some v6 ∧ w.cell? p7 = some v7 ∧ w.cell? p8 = some v8 ∧ w.cell? p9 = some v9 ∧ w.cell? p10 = some v10 ∧ w.cell? p11 = some v11 ∧ w.cell? p12 = some v12 ∧ w.cell? p13 = some v13 ∧ w.cell? p14 = some v14 ∧ w.cell? p15 = some v15 ∧ w.cell? p16 = some v16 ∧ w.cell? p17 = some v17 ∧ w.cell? p18 = some v18 ∧ w.cell? p19 = some v19 ∧ Kp W0 w) : w.drew.cell? p0 = some v0 ∧ w.drew.cell? p1 = some v1 ∧ w.drew.cell? p2 = some v2 ∧ w.drew.cell? p3 = some v3 ∧ w.drew.cell? p4 = some v4 ∧ w.drew.cell? p5 = some v5 ∧ w.drew.cell? p6 = some v6 ∧ w.drew.cell? p7 = some v7 ∧ w.drew.cell? p8 = some v8 ∧ w.drew.cell? p9 = some v9 ∧ w.drew.cell? p10 = some v10 ∧ w.drew.cell? p11 = some v11 ∧ w.drew.cell? p12 = some v12 ∧ w.drew.cell? p13 = some v13 ∧ w.drew.cell? p14 = some v14 ∧ w.drew.cell? p15 = some v15 ∧ w.drew.cell? p16 = some v16 ∧ w.drew.cell? p17 = some v17 ∧ w.drew.cell? p18 = some v18 ∧ w.drew.cell? p19 = some v19 ∧ Kp W0 w.drew :=
  ⟨h.1, h.2.1, h.2.2.1, h.2.2.2.1, h.2.2.2.2.1, h.2.2.2.2.2.1, h.2.2.2.2.2.2.1, h.2.2.2.2.2.2.2.1, h.2.2.2.2.2.2.2.2.1, h.2.2.2.2.2.2.2.2.2.1, h.2.2.2.2.2.2.2.2.2.2.1, h.2.2.2.2.2.2.2.2.2.2.2.1, h.2.2.2.2.2.2.2.2.2.2.2.2.1, h.2.2.2.2.2.2.2.2.2.2.2.2.2.1, h.2.2.2.2.2.2.2.2.2.2.2.2.2.2.1, h.2.2.2.2.2.2.2.2.2.2.2.2.2.2.2.1, h.2.2.2.2.2.2.2.2.2.2.2.2.2.2.2.2.1, h.2.2.2.2.2.2.2.2.2.2.2.2.2.2.2.2.2.1, h.2.2.2.2.2.2.2.2.2.2.2.2.2.2.2.2.2.2.1, h.2.2.2.2.2.2.2.2.2.2.2.2.2.2.2.2.2.2.2.1, h.2.2.2.2.2.2.2.2.2.2.2.2.2.2.2.2.2.2.2.2.drew⟩
theorem uni_vals {r : Rul} {W H : Int} {lt lr ld : List Int} {us : List Uni} {j : Nat} {u : Uni} (hok : brdOk r W H lt lr ld = true) (hu : ∀ u ∈ us, uniOk r.ters r.knds W H lt u = true) (h : us[j]? = some u) :
    ∃ (K : Nat) (kd : Knd), u.k = K ∧ K < r.knds.length ∧ r.knds[K]? = some kd ∧ strU r.knds u = kd.str * u.t ∧ (1 ≤ kd.str ∧ kd.str ≤ 9) ∧ (0 ≤ u.t ∧ u.t ≤ 4) ∧ (u.s = 0 ∨ u.s = 1) ∧ (u.a = -1 ∨ 0 ≤ u.a) := by
  obtain ⟨h1, h2, h3, h4⟩ := uniOk_side (hu u (List.mem_of_getElem? h))
  obtain ⟨K, kd, e, hK, hx, es, er⟩ := knd_of h2.1 h2.2
  have hk : numK kd = true := by
    simp only [brdOk, rulOk, Bool.and_eq_true, List.all_eq_true] at hok
    exact hok.1.1.2.2.1 kd (List.mem_of_getElem? hx)
  simp only [numK, spB, Bool.and_eq_true, decide_eq_true_iff] at hk
  rw [es] at h3
  refine ⟨K, kd, e, hK, hx, ?_, hk.1, ⟨h3.1, by omega⟩, h1, h4⟩
  unfold strU
  rw [er]
theorem mul_bd36 {x y : Int} (a : 1 ≤ x) (b : x ≤ 9) (c : 0 ≤ y) (d : y ≤ 4) : 0 ≤ x * y ∧ x * y ≤ 36 := by
  have h1 := Int.mul_nonneg (by omega : (0 : Int) ≤ x) c
  have h2 := Int.mul_le_mul b d c (by omega)
  omega
theorem take_succ_at {L : List Int} {q : Nat} {x : Int} (h : L[q]? = some x) : L.take (q + 1) = L.take q ++ [x] := by
  obtain ⟨hq, rfl⟩ := List.getElem?_eq_some_iff.1 h
  exact List.take_succ_eq_append_getElem hq

set_option maxRecDepth 100000 in
set_option maxHeartbeats 4000000 in
theorem sStrength_any (At : Option Addr) (nt nk ct ck : Nat) (l : List Ter) (m : List Knd) (a b c d e W H : Int) (x r y : Value) (lt lr ld : List Int) (gk ok : Nat) (T Z : Int) (A : Option Addr) (N cp : Nat) (us : List Uni) (sd i : Int) (w : World) (hB : BrdAt w At (some ⟨gk, ok, none⟩) nt nk l m x r y lt lr ld) (hS : StaAt w (.slice A N cp) us) (hN : us.length = N) (hok : brdOk ⟨l, m, a, b, c, d, e⟩ W H lt lr ld = true) (hst : staOk ⟨l, m, a, b, c, d, e⟩ W H lt T Z us = true) :
    Calls Tryd.prog 46 #[bv (.slice At nt ct) (.slice (some ⟨gk, ok, none⟩) nk ck) a b c d e W H x r y, sv T Z (.slice A N cp), .int .i64 sd, .int .i64 i] w fun e' w' => e' = .returned (.int .i64 (sumU (strU m) us (unL (inHexS i sd) us us.length))) ∧ Kp w w' := by
  have KA : Kp w ((w.alloc (.cells #[.slice At nt ct, .slice (some ⟨gk, ok, none⟩) nk ck, .int .i64 a, .int .i64 b, .int .i64 c, .int .i64 d, .int .i64 e, .int .i64 W, .int .i64 H, x, r, y] 44)).alloc (.cells #[.int .i64 T, .int .i64 Z, .slice A N cp] 48)) := ((Kp.refl w).alloc _).alloc _
  have s0 : ((w.alloc (.cells #[.slice At nt ct, .slice (some ⟨gk, ok, none⟩) nk ck, .int .i64 a, .int .i64 b, .int .i64 c, .int .i64 d, .int .i64 e, .int .i64 W, .int .i64 H, x, r, y] 44)).alloc (.cells #[.int .i64 T, .int .i64 Z, .slice A N cp] 48)).cell? ⟨w.heap.size, 0, none⟩ = some (.slice At nt ct) ∧ ((w.alloc (.cells #[.slice At nt ct, .slice (some ⟨gk, ok, none⟩) nk ck, .int .i64 a, .int .i64 b, .int .i64 c, .int .i64 d, .int .i64 e, .int .i64 W, .int .i64 H, x, r, y] 44)).alloc (.cells #[.int .i64 T, .int .i64 Z, .slice A N cp] 48)).cell? ⟨w.heap.size, 1, none⟩ = some (.slice (some ⟨gk, ok, none⟩) nk ck) ∧ ((w.alloc (.cells #[.slice At nt ct, .slice (some ⟨gk, ok, none⟩) nk ck, .int .i64 a, .int .i64 b, .int .i64 c, .int .i64 d, .int .i64 e, .int .i64 W, .int .i64 H, x, r, y] 44)).alloc (.cells #[.int .i64 T, .int .i64 Z, .slice A N cp] 48)).cell? ⟨w.heap.size, 2, none⟩ = some (.int .i64 a) ∧ ((w.alloc (.cells #[.slice At nt ct, .slice (some ⟨gk, ok, none⟩) nk ck, .int .i64 a, .int .i64 b, .int .i64 c, .int .i64 d, .int .i64 e, .int .i64 W, .int .i64 H, x, r, y] 44)).alloc (.cells #[.int .i64 T, .int .i64 Z, .slice A N cp] 48)).cell? ⟨w.heap.size, 3, none⟩ = some (.int .i64 b) ∧ ((w.alloc (.cells #[.slice At nt ct, .slice (some ⟨gk, ok, none⟩) nk ck, .int .i64 a, .int .i64 b, .int .i64 c, .int .i64 d, .int .i64 e, .int .i64 W, .int .i64 H, x, r, y] 44)).alloc (.cells #[.int .i64 T, .int .i64 Z, .slice A N cp] 48)).cell? ⟨w.heap.size, 4, none⟩ = some (.int .i64 c) ∧ ((w.alloc (.cells #[.slice At nt ct, .slice (some ⟨gk, ok, none⟩) nk ck, .int .i64 a, .int .i64 b, .int .i64 c, .int .i64 d, .int .i64 e, .int .i64 W, .int .i64 H, x, r, y] 44)).alloc (.cells #[.int .i64 T, .int .i64 Z, .slice A N cp] 48)).cell? ⟨w.heap.size, 5, none⟩ = some (.int .i64 d) ∧ ((w.alloc (.cells #[.slice At nt ct, .slice (some ⟨gk, ok, none⟩) nk ck, .int .i64 a, .int .i64 b, .int .i64 c, .int .i64 d, .int .i64 e, .int .i64 W, .int .i64 H, x, r, y] 44)).alloc (.cells #[.int .i64 T, .int .i64 Z, .slice A N cp] 48)).cell? ⟨w.heap.size, 6, none⟩ = some (.int .i64 e) ∧ ((w.alloc (.cells #[.slice At nt ct, .slice (some ⟨gk, ok, none⟩) nk ck, .int .i64 a, .int .i64 b, .int .i64 c, .int .i64 d, .int .i64 e, .int .i64 W, .int .i64 H, x, r, y] 44)).alloc (.cells #[.int .i64 T, .int .i64 Z, .slice A N cp] 48)).cell? ⟨w.heap.size, 7, none⟩ = some (.int .i64 W) ∧ ((w.alloc (.cells #[.slice At nt ct, .slice (some ⟨gk, ok, none⟩) nk ck, .int .i64 a, .int .i64 b, .int .i64 c, .int .i64 d, .int .i64 e, .int .i64 W, .int .i64 H, x, r, y] 44)).alloc (.cells #[.int .i64 T, .int .i64 Z, .slice A N cp] 48)).cell? ⟨w.heap.size, 8, none⟩ = some (.int .i64 H) ∧ ((w.alloc (.cells #[.slice At nt ct, .slice (some ⟨gk, ok, none⟩) nk ck, .int .i64 a, .int .i64 b, .int .i64 c, .int .i64 d, .int .i64 e, .int .i64 W, .int .i64 H, x, r, y] 44)).alloc (.cells #[.int .i64 T, .int .i64 Z, .slice A N cp] 48)).cell? ⟨w.heap.size, 9, none⟩ = some (x) ∧ ((w.alloc (.cells #[.slice At nt ct, .slice (some ⟨gk, ok, none⟩) nk ck, .int .i64 a, .int .i64 b, .int .i64 c, .int .i64 d, .int .i64 e, .int .i64 W, .int .i64 H, x, r, y] 44)).alloc (.cells #[.int .i64 T, .int .i64 Z, .slice A N cp] 48)).cell? ⟨w.heap.size, 10, none⟩ = some (r) ∧ ((w.alloc (.cells #[.slice At nt ct, .slice (some ⟨gk, ok, none⟩) nk ck, .int .i64 a, .int .i64 b, .int .i64 c, .int .i64 d, .int .i64 e, .int .i64 W, .int .i64 H, x, r, y] 44)).alloc (.cells #[.int .i64 T, .int .i64 Z, .slice A N cp] 48)).cell? ⟨w.heap.size, 11, none⟩ = some (y) ∧ ((w.alloc (.cells #[.slice At nt ct, .slice (some ⟨gk, ok, none⟩) nk ck, .int .i64 a, .int .i64 b, .int .i64 c, .int .i64 d, .int .i64 e, .int .i64 W, .int .i64 H, x, r, y] 44)).alloc (.cells #[.int .i64 T, .int .i64 Z, .slice A N cp] 48)).cell? ⟨w.heap.size + 1, 0, none⟩ = some (.int .i64 T) ∧ ((w.alloc (.cells #[.slice At nt ct, .slice (some ⟨gk, ok, none⟩) nk ck, .int .i64 a, .int .i64 b, .int .i64 c, .int .i64 d, .int .i64 e, .int .i64 W, .int .i64 H, x, r, y] 44)).alloc (.cells #[.int .i64 T, .int .i64 Z, .slice A N cp] 48)).cell? ⟨w.heap.size + 1, 1, none⟩ = some (.int .i64 Z) ∧ ((w.alloc (.cells #[.slice At nt ct, .slice (some ⟨gk, ok, none⟩) nk ck, .int .i64 a, .int .i64 b, .int .i64 c, .int .i64 d, .int .i64 e, .int .i64 W, .int .i64 H, x, r, y] 44)).alloc (.cells #[.int .i64 T, .int .i64 Z, .slice A N cp] 48)).cell? ⟨w.heap.size + 1, 2, none⟩ = some (.slice A N cp) ∧ Kp w ((w.alloc (.cells #[.slice At nt ct, .slice (some ⟨gk, ok, none⟩) nk ck, .int .i64 a, .int .i64 b, .int .i64 c, .int .i64 d, .int .i64 e, .int .i64 W, .int .i64 H, x, r, y] 44)).alloc (.cells #[.int .i64 T, .int .i64 Z, .slice A N cp] 48)) := ⟨by simp [go_sem], by simp [go_sem], by simp [go_sem], by simp [go_sem], by simp [go_sem], by simp [go_sem], by simp [go_sem], by simp [go_sem], by simp [go_sem], by simp [go_sem], by simp [go_sem], by simp [go_sem], by simp [go_sem], by simp [go_sem], by simp [go_sem], KA⟩
  have HS := Lib.hid hS
  have hbk := hB.R.bk
  have hml := hB.R.rk.1
  obtain ⟨_, hn12, hall, _⟩ := staOk_parts hst
  have HN := Lib.hid hN
  have HA : Hid (0 < N → ∃ g off, A = some ⟨g, off, none⟩ ∧ ∀ i x, us[i]? = some x → UniAt w g (off + i * 4) x) := Lib.hid (by
    obtain ⟨A', c', e', h'⟩ := hS.rd
    simp only [Value.slice.injEq] at e'
    obtain ⟨rfl, _, rfl⟩ := e'
    rw [hN] at h'
    exact h')
  obtain ⟨L, hL⟩ : ∃ L, L = unL (inHexS i sd) us us.length := ⟨_, rfl⟩
  have hLn : L.length ≤ 12 := by rw [hL]; have := unL_len (inHexS i sd) us us.length; omega
  have HLm : Hid (∀ x ∈ L, ∃ (j : Nat) (u : Uni), x = j ∧ us[j]? = some u) := Lib.hid fun x hx => by
    rw [hL] at hx
    obtain ⟨j, u, _, e, h, _⟩ := unL_mem hx
    exact ⟨j, u, e, h⟩
  have CA : Hid (∀ w, StaAt w (.slice A N cp) us → Calls Tryd.prog 43 #[sv T Z (.slice A N cp), .int .i64 i, .int .i64 sd] w fun e w' => ∃ v, e = .returned v ∧ OwnI w' w.heap.size v L ∧ Kp w w') := Lib.hid fun w h => by
    rw [hL]
    exact sAt_any T Z _ us i sd w h hn12
  rw [← hL]
  have HV : Hid (∀ (j : Nat) (u : Uni), us[j]? = some u → ∃ (K : Nat) (kd : Knd), u.k = K ∧ K < nk ∧ w.cell? ⟨gk, ok + K * 6 + 1, none⟩ = some (.int .i64 kd.str) ∧ strU m u = kd.str * u.t ∧ (1 ≤ kd.str ∧ kd.str ≤ 9) ∧ (0 ≤ u.t ∧ u.t ≤ 4)) := Lib.hid fun j u h => by
    obtain ⟨K, kd, e1, e2, e3, e4, e5, e6, _⟩ := uni_vals hok hall h
    obtain ⟨g', o', eg, hck⟩ := hB.R.rk.2 (by simp only at e2; omega)
    simp only [Option.some.injEq, Addr.mk.injEq, and_true] at eg
    obtain ⟨rfl, rfl⟩ := eg
    obtain ⟨_, q1, _⟩ := hck K kd e3
    exact ⟨K, kd, e1, by simp only at e2; omega, q1, e4, e5, e6⟩
  have SB : Hid (∀ M : List Int, 0 ≤ sumU (strU m) us M ∧ sumU (strU m) us M ≤ 36 * (M.length : Int)) := Lib.hid (sumU_bd (by omega) fun u hu => by
    obtain ⟨j, hj, rfl⟩ := List.mem_iff_getElem.1 hu
    obtain ⟨K, kd, _, _, _, e4, e5, e6⟩ := HV.out j _ (List.getElem?_eq_getElem hj)
    rw [e4]
    exact mul_bd36 e5.1 e5.2 e6.1 e6.2)
  clear hB hS hN hst hok hall hL
  go_enter Tryd.func46, Tryd.ntmps46
  go_wp2_with fail
  refine (CA.out _ (HS.out.keep KA)).mono ?_
  rintro e1 w1 ⟨v, rfl, o1, k1⟩
  have s1 := keepy15 k1 s0
  obtain ⟨Av, cv, rfl, hv⟩ := o1.rd
  obtain ⟨n, hn⟩ : ∃ n, L.length = n := ⟨_, rfl⟩
  rw [hn] at hv hLn ⊢
  have HV2 := Lib.hid hv
  have HN2 := Lib.hid hn
  clear s0 k1 o1 hv hn KA
  go_wp2_with fail
  go_loopw [9, 17] (fun acc iq wx => ∃ q : Nat, q ≤ n ∧ iq = .int .i64 q ∧ acc = .int .i64 (sumU (strU m) us (L.take q)) ∧ Kp w1 wx ∧ wx.cell? ⟨w.heap.size, 0, none⟩ = some (.slice At nt ct) ∧ wx.cell? ⟨w.heap.size, 1, none⟩ = some (.slice (some ⟨gk, ok, none⟩) nk ck) ∧ wx.cell? ⟨w.heap.size, 2, none⟩ = some (.int .i64 a) ∧ wx.cell? ⟨w.heap.size, 3, none⟩ = some (.int .i64 b) ∧ wx.cell? ⟨w.heap.size, 4, none⟩ = some (.int .i64 c) ∧ wx.cell? ⟨w.heap.size, 5, none⟩ = some (.int .i64 d) ∧ wx.cell? ⟨w.heap.size, 6, none⟩ = some (.int .i64 e) ∧ wx.cell? ⟨w.heap.size, 7, none⟩ = some (.int .i64 W) ∧ wx.cell? ⟨w.heap.size, 8, none⟩ = some (.int .i64 H) ∧ wx.cell? ⟨w.heap.size, 9, none⟩ = some (x) ∧ wx.cell? ⟨w.heap.size, 10, none⟩ = some (r) ∧ wx.cell? ⟨w.heap.size, 11, none⟩ = some (y) ∧ wx.cell? ⟨w.heap.size + 1, 0, none⟩ = some (.int .i64 T) ∧ wx.cell? ⟨w.heap.size + 1, 1, none⟩ = some (.int .i64 Z) ∧ wx.cell? ⟨w.heap.size + 1, 2, none⟩ = some (.slice A N cp) ∧ Kp w wx) (fun _ iq _ => n - (intOf iq).toNat)
  case atStart => exact ⟨0, by omega, rfl, rfl, Kp.refl _, s1⟩
  case round =>
    clear s1
    obtain ⟨q, hq, rfl, rfl, kv, sr⟩ := hrel
    have hb := SB.out (L.take q)
    have hbl : (L.take q).length ≤ q := List.length_take_le _ _
    by_cases hlt : q < n
    · have hlt' : (q : Int) < n := by omega
      obtain ⟨gv, ov, rfl, hcv⟩ := HV2.out (by omega)
      obtain ⟨xx, hxx⟩ : ∃ z, L[q]? = some z := ⟨L[q]'(by have := HN2.out; omega), List.getElem?_eq_getElem _⟩
      have cq := kv.cell (hcv q xx hxx)
      obtain ⟨j, u, rfl, hu⟩ := HLm.out xx (List.mem_of_getElem? hxx)
      have hjN : j < N := by have := (List.getElem?_eq_some_iff.1 hu).1; have := HN.out; omega
      have hjI : (j : Int) < N := by omega
      obtain ⟨g, off, rfl, hc⟩ := HA.out (by omega)
      obtain ⟨_, a1, _, a3⟩ := (hc j u hu).keep sr.2.2.2.2.2.2.2.2.2.2.2.2.2.2.2
      obtain ⟨K, kd, ek, hK, qk, e4, e5, e6⟩ := HV.out j u hu
      have qk2 := sr.2.2.2.2.2.2.2.2.2.2.2.2.2.2.2.cell qk
      have ES := Lib.hid (sumU_snoc (g := strU m) (us := us) (L := L.take q) hu)
      have ET := Lib.hid (take_succ_at hxx)
      obtain ⟨stv, hstv⟩ : ∃ z, kd.str = z := ⟨_, rfl⟩
      obtain ⟨tx, htx⟩ : ∃ z, u.t = z := ⟨_, rfl⟩
      rw [ek] at a1
      rw [hstv] at qk2 e4 e5
      rw [htx] at a3 e4 e6
      rw [e4] at ES
      have hm := mul_bd36 e5.1 e5.2 e6.1 e6.2
      have HSX : Hid (sumU (strU m) us (L.take (q + 1)) = sumU (strU m) us (L.take q) + stv * tx) := Lib.hid (by rw [ET.out]; exact ES.out)
      obtain ⟨acc, hacc⟩ : ∃ z, sumU (strU m) us (L.take q) = z := ⟨_, rfl⟩
      rw [hacc] at hb HSX ⊢
      have em : IntKind.i64.wrap (stv * tx) = stv * tx := IntWalk.i64_in _ (by omega)
      have ea : IntKind.i64.wrap (acc + stv * tx) = acc + stv * tx := IntWalk.i64_in _ (by omega)
      have hkI : (K : Int) < nk := by omega
      have hkO : ((K : Int)).toNat = K := by omega
      have hjO : ((j : Int)).toNat = j := by omega
      have s4 : wr.cell? ⟨w.heap.size, 0, none⟩ = some (.slice At nt ct) ∧ wr.cell? ⟨w.heap.size, 1, none⟩ = some (.slice (some ⟨gk, ok, none⟩) nk ck) ∧ wr.cell? ⟨w.heap.size, 2, none⟩ = some (.int .i64 a) ∧ wr.cell? ⟨w.heap.size, 3, none⟩ = some (.int .i64 b) ∧ wr.cell? ⟨w.heap.size, 4, none⟩ = some (.int .i64 c) ∧ wr.cell? ⟨w.heap.size, 5, none⟩ = some (.int .i64 d) ∧ wr.cell? ⟨w.heap.size, 6, none⟩ = some (.int .i64 e) ∧ wr.cell? ⟨w.heap.size, 7, none⟩ = some (.int .i64 W) ∧ wr.cell? ⟨w.heap.size, 8, none⟩ = some (.int .i64 H) ∧ wr.cell? ⟨w.heap.size, 9, none⟩ = some (x) ∧ wr.cell? ⟨w.heap.size, 10, none⟩ = some (r) ∧ wr.cell? ⟨w.heap.size, 11, none⟩ = some (y) ∧ wr.cell? ⟨w.heap.size + 1, 0, none⟩ = some (.int .i64 T) ∧ wr.cell? ⟨w.heap.size + 1, 1, none⟩ = some (.int .i64 Z) ∧ wr.cell? ⟨w.heap.size + 1, 2, none⟩ = some (.slice (some ⟨g, off, none⟩) N cp) ∧ wr.cell? ⟨g, off + j * 4 + 1, none⟩ = some (.int .i64 (K : Int)) ∧ wr.cell? ⟨g, off + j * 4 + 3, none⟩ = some (.int .i64 tx) ∧ wr.cell? ⟨gk, ok + K * 6 + 1, none⟩ = some (.int .i64 stv) ∧ Kp w wr := ⟨sr.1, sr.2.1, sr.2.2.1, sr.2.2.2.1, sr.2.2.2.2.1, sr.2.2.2.2.2.1, sr.2.2.2.2.2.2.1, sr.2.2.2.2.2.2.2.1, sr.2.2.2.2.2.2.2.2.1, sr.2.2.2.2.2.2.2.2.2.1, sr.2.2.2.2.2.2.2.2.2.2.1, sr.2.2.2.2.2.2.2.2.2.2.2.1, sr.2.2.2.2.2.2.2.2.2.2.2.2.1, sr.2.2.2.2.2.2.2.2.2.2.2.2.2.1, sr.2.2.2.2.2.2.2.2.2.2.2.2.2.2.1, a1, a3, qk2, sr.2.2.2.2.2.2.2.2.2.2.2.2.2.2.2⟩
      clear hxx hu hc hcv ek qk e4 e5 e6 hstv htx ES ET hacc a1 a3 qk2
      go_wp2_with fail
      have s5 := And.intro kv.drew (drewy18 s4)
      refine wp_region_held_drew (S := (fun w' => Kp w1 w' ∧ w'.cell? ⟨w.heap.size, 0, none⟩ = some (.slice At nt ct) ∧ w'.cell? ⟨w.heap.size, 1, none⟩ = some (.slice (some ⟨gk, ok, none⟩) nk ck) ∧ w'.cell? ⟨w.heap.size, 2, none⟩ = some (.int .i64 a) ∧ w'.cell? ⟨w.heap.size, 3, none⟩ = some (.int .i64 b) ∧ w'.cell? ⟨w.heap.size, 4, none⟩ = some (.int .i64 c) ∧ w'.cell? ⟨w.heap.size, 5, none⟩ = some (.int .i64 d) ∧ w'.cell? ⟨w.heap.size, 6, none⟩ = some (.int .i64 e) ∧ w'.cell? ⟨w.heap.size, 7, none⟩ = some (.int .i64 W) ∧ w'.cell? ⟨w.heap.size, 8, none⟩ = some (.int .i64 H) ∧ w'.cell? ⟨w.heap.size, 9, none⟩ = some (x) ∧ w'.cell? ⟨w.heap.size, 10, none⟩ = some (r) ∧ w'.cell? ⟨w.heap.size, 11, none⟩ = some (y) ∧ w'.cell? ⟨w.heap.size + 1, 0, none⟩ = some (.int .i64 T) ∧ w'.cell? ⟨w.heap.size + 1, 1, none⟩ = some (.int .i64 Z) ∧ w'.cell? ⟨w.heap.size + 1, 2, none⟩ = some (.slice (some ⟨g, off, none⟩) N cp) ∧ w'.cell? ⟨g, off + j * 4 + 1, none⟩ = some (.int .i64 (K : Int)) ∧ w'.cell? ⟨g, off + j * 4 + 3, none⟩ = some (.int .i64 tx) ∧ w'.cell? ⟨gk, ok + K * 6 + 1, none⟩ = some (.int .i64 stv) ∧ Kp w w')) (by kernel_rfl) ?_ (fun hHeld => ?_)
      · exact s5
      refine wpAnyH_take (i := 0) (oi := ⟨some 21, _, _, _, _, _⟩) (v := ?_) rfl (by kernel_rfl) (by kernel_rfl) (by kernel_rfl) (fun _ _ _ h => h) (Or.inl ⟨by rfl, ?_⟩) (by assumption) ?_
      rotate_left
      · intro w hSw; (try dsimp only at hSw); go_simp; (all_goals with_reducible rfl)
      simp only [Act.put, List.setIfInBounds_toArray, List.set_cons_zero, List.set_cons_succ]
      refine wpAnyH_take (i := 1) (oi := ⟨some 22, _, _, _, _, _⟩) (v := ?_) rfl (by kernel_rfl) (by kernel_rfl) (by kernel_rfl) (fun _ _ _ h => h) (Or.inl ⟨by rfl, ?_⟩) (by assumption) ?_
      rotate_left
      · intro w hSw; (try dsimp only at hSw); go_simp; (all_goals with_reducible rfl)
      simp only [Act.put, List.setIfInBounds_toArray, List.set_cons_zero, List.set_cons_succ]
      refine wpAnyH_take (i := 2) (oi := ⟨some 23, _, _, _, _, _⟩) (v := ?_) rfl (by kernel_rfl) (by kernel_rfl) (by kernel_rfl) (fun _ _ _ h => h) (Or.inl ⟨by rfl, ?_⟩) (by assumption) ?_
      rotate_left
      · intro w hSw; (try dsimp only at hSw); go_simp; (all_goals with_reducible rfl)
      simp only [Act.put, List.setIfInBounds_toArray, List.set_cons_zero, List.set_cons_succ]
      refine wpAnyH_take (i := 3) (oi := ⟨some 24, _, _, _, _, _⟩) (v := ?_) rfl (by kernel_rfl) (by kernel_rfl) (by kernel_rfl) (fun _ _ _ h => h) (Or.inl ⟨by rfl, ?_⟩) (by assumption) ?_
      rotate_left
      · intro w hSw; (try dsimp only at hSw); go_simp; (all_goals with_reducible rfl)
      simp only [Act.put, List.setIfInBounds_toArray, List.set_cons_zero, List.set_cons_succ]
      refine wpAnyH_take (i := 4) (oi := ⟨some 25, _, _, _, _, _⟩) (v := ?_) rfl (by kernel_rfl) (by kernel_rfl) (by kernel_rfl) (fun _ _ _ h => h) (Or.inl ⟨by rfl, ?_⟩) (by assumption) ?_
      rotate_left
      · intro w hSw; (try dsimp only at hSw); go_simp; (all_goals with_reducible rfl)
      simp only [Act.put, List.setIfInBounds_toArray, List.set_cons_zero, List.set_cons_succ]
      refine wpAnyH_take (i := 5) (oi := ⟨some 26, _, _, _, _, _⟩) (v := ?_) rfl (by kernel_rfl) (by kernel_rfl) (by kernel_rfl) (fun _ _ _ h => h) (Or.inl ⟨by rfl, ?_⟩) (by assumption) ?_
      rotate_left
      · intro w hSw; (try dsimp only at hSw); go_simp; (all_goals with_reducible rfl)
      simp only [Act.put, List.setIfInBounds_toArray, List.set_cons_zero, List.set_cons_succ]
      refine wpAnyH_take (i := 6) (oi := ⟨some 27, _, _, _, _, _⟩) (v := ?_) rfl (by kernel_rfl) (by kernel_rfl) (by kernel_rfl) (fun _ _ _ h => h) (Or.inl ⟨by rfl, ?_⟩) (by assumption) ?_
      rotate_left
      · intro w hSw; (try dsimp only at hSw); go_simp; (all_goals with_reducible rfl)
      simp only [Act.put, List.setIfInBounds_toArray, List.set_cons_zero, List.set_cons_succ]
      refine wpAnyH_take (i := 7) (oi := ⟨some 28, _, _, _, _, _⟩) (v := ?_) rfl (by kernel_rfl) (by kernel_rfl) (by kernel_rfl) (fun _ _ _ h => h) (Or.inl ⟨by rfl, ?_⟩) (by assumption) ?_
      rotate_left
      · intro w hSw; (try dsimp only at hSw); go_simp; (all_goals with_reducible rfl)
      simp only [Act.put, List.setIfInBounds_toArray, List.set_cons_zero, List.set_cons_succ]
      refine wpAnyH_take (i := 8) (oi := ⟨some 29, _, _, _, _, _⟩) (v := ?_) rfl (by kernel_rfl) (by kernel_rfl) (by kernel_rfl) (fun _ _ _ h => h) (Or.inl ⟨by rfl, ?_⟩) (by assumption) ?_
      rotate_left
      · intro w hSw; (try dsimp only at hSw); go_simp; (all_goals with_reducible rfl)
      simp only [Act.put, List.setIfInBounds_toArray, List.set_cons_zero, List.set_cons_succ]
      refine wpAnyH_take (i := 9) (oi := ⟨some 30, _, _, _, _, _⟩) (v := ?_) rfl (by kernel_rfl) (by kernel_rfl) (by kernel_rfl) (fun _ _ _ h => h) (Or.inl ⟨by rfl, ?_⟩) (by assumption) ?_
      rotate_left
      · intro w hSw; (try dsimp only at hSw); go_simp; (all_goals with_reducible rfl)
      simp only [Act.put, List.setIfInBounds_toArray, List.set_cons_zero, List.set_cons_succ]
      refine wpAnyH_take (i := 10) (oi := ⟨some 31, _, _, _, _, _⟩) (v := ?_) rfl (by kernel_rfl) (by kernel_rfl) (by kernel_rfl) (fun _ _ _ h => h) (Or.inl ⟨by rfl, ?_⟩) (by assumption) ?_
      rotate_left
      · intro w hSw; (try dsimp only at hSw); go_simp; (all_goals with_reducible rfl)
      simp only [Act.put, List.setIfInBounds_toArray, List.set_cons_zero, List.set_cons_succ]
      refine wpAnyH_take (i := 11) (oi := ⟨some 32, _, _, _, _, _⟩) (v := ?_) rfl (by kernel_rfl) (by kernel_rfl) (by kernel_rfl) (fun _ _ _ h => h) (Or.inl ⟨by rfl, ?_⟩) (by assumption) ?_
      rotate_left
      · intro w hSw; (try dsimp only at hSw); go_simp; (all_goals with_reducible rfl)
      simp only [Act.put, List.setIfInBounds_toArray, List.set_cons_zero, List.set_cons_succ]
      refine wpAnyH_take (i := 12) (oi := ⟨some 33, _, _, _, _, _⟩) (v := ?_) rfl (by kernel_rfl) (by kernel_rfl) (by kernel_rfl) (fun _ _ _ h => h) (Or.inl ⟨by rfl, ?_⟩) (by assumption) ?_
      rotate_left
      · intro w hSw; (try dsimp only at hSw); go_simp; (all_goals with_reducible rfl)
      simp only [Act.put, List.setIfInBounds_toArray, List.set_cons_zero, List.set_cons_succ]
      refine wpAnyH_take (i := 13) (oi := ⟨some 34, _, _, _, _, _⟩) (v := ?_) rfl (by kernel_rfl) (by kernel_rfl) (by kernel_rfl) (fun _ _ _ h => h) (Or.inl ⟨by rfl, ?_⟩) (by assumption) ?_
      rotate_left
      · intro w hSw; (try dsimp only at hSw); go_simp; (all_goals with_reducible rfl)
      simp only [Act.put, List.setIfInBounds_toArray, List.set_cons_zero, List.set_cons_succ]
      refine wpAnyH_take (i := 14) (oi := ⟨some 35, _, _, _, _, _⟩) (v := ?_) rfl (by kernel_rfl) (by kernel_rfl) (by kernel_rfl) (fun _ _ _ h => h) (Or.inl ⟨by rfl, ?_⟩) (by assumption) ?_
      rotate_left
      · intro w hSw; (try dsimp only at hSw); go_simp; (all_goals with_reducible rfl)
      simp only [Act.put, List.setIfInBounds_toArray, List.set_cons_zero, List.set_cons_succ]
      refine wpAnyH_take (i := 15) (oi := ⟨some 36, _, _, _, _, _⟩) (v := ?_) rfl (by kernel_rfl) (by kernel_rfl) (by kernel_rfl) (fun _ _ _ h => h) (Or.inl ⟨by rfl, ?_⟩) (by assumption) ?_
      rotate_left
      · intro w hSw; (try dsimp only at hSw); go_simp; (all_goals with_reducible rfl)
      simp only [Act.put, List.setIfInBounds_toArray, List.set_cons_zero, List.set_cons_succ]
      refine wpAnyH_take (i := 16) (oi := ⟨some 37, _, _, _, _, _⟩) (v := ?_) rfl (by kernel_rfl) (by kernel_rfl) (by kernel_rfl) (fun _ _ _ h => h) (Or.inl ⟨by rfl, ?_⟩) (by assumption) ?_
      rotate_left
      · intro w hSw; (try dsimp only at hSw); go_simp; (all_goals with_reducible rfl)
      simp only [Act.put, List.setIfInBounds_toArray, List.set_cons_zero, List.set_cons_succ]
      refine wpAnyH_take (i := 17) (oi := ⟨some 38, _, _, _, _, _⟩) (v := ?_) rfl (by kernel_rfl) (by kernel_rfl) (by kernel_rfl) (fun _ _ _ h => h) (Or.inl ⟨by rfl, ?_⟩) (by assumption) ?_
      rotate_left
      · intro w hSw; (try dsimp only at hSw); go_simp; (all_goals with_reducible rfl)
      simp only [Act.put, List.setIfInBounds_toArray, List.set_cons_zero, List.set_cons_succ]
      refine wpAnyH_take (i := 18) (oi := ⟨some 39, _, _, _, _, _⟩) (v := ?_) rfl (by kernel_rfl) (by kernel_rfl) (by kernel_rfl) (fun _ _ _ h => h) (Or.inl ⟨by rfl, ?_⟩) (by assumption) ?_
      rotate_left
      · intro w hSw; (try dsimp only at hSw); go_simp; (all_goals with_reducible rfl)
      simp only [Act.put, List.setIfInBounds_toArray, List.set_cons_zero, List.set_cons_succ]
      refine wpAnyH_take (i := 19) (oi := ⟨some 40, _, _, _, _, _⟩) (v := ?_) rfl (by kernel_rfl) (by kernel_rfl) (by kernel_rfl) (fun _ _ _ h => h) (Or.inl ⟨by rfl, ?_⟩) (by assumption) ?_
      rotate_left
      · intro w hSw; (try dsimp only at hSw); go_simp; (all_goals with_reducible rfl)
      simp only [Act.put, List.setIfInBounds_toArray, List.set_cons_zero, List.set_cons_succ]
      refine wpAnyH_take (i := 20) (oi := ⟨some 41, _, _, _, _, _⟩) (v := ?_) rfl (by kernel_rfl) (by kernel_rfl) (by kernel_rfl) (fun _ _ _ h => h) (Or.inl ⟨by rfl, ?_⟩) (by assumption) ?_
      rotate_left
      · intro w hSw; (try dsimp only at hSw); go_simp; (all_goals with_reducible rfl)
      simp only [Act.put, List.setIfInBounds_toArray, List.set_cons_zero, List.set_cons_succ]
      refine wpAnyH_take (i := 21) (oi := ⟨some 9, _, _, _, _, _⟩) (v := ?_) rfl (by kernel_rfl) (by kernel_rfl) (by kernel_rfl) (fun _ _ _ h => h) (Or.inl ⟨by rfl, ?_⟩) (by assumption) ?_
      rotate_left
      · intro w hSw; (try dsimp only at hSw); go_simp; (all_goals with_reducible rfl)
      simp only [Act.put, List.setIfInBounds_toArray, List.set_cons_zero, List.set_cons_succ]
      refine wpAnyH_done (by kernel_rfl) ?_ _
      go_wp2_with fail
      obtain ⟨hk9, hh9⟩ := hHeld
      go_roundw
      case rel => exact ⟨q + 1, by omega, by go_num, by rw [HSX.out], hk9, hh9.1, hh9.2.1, hh9.2.2.1, hh9.2.2.2.1, hh9.2.2.2.2.1, hh9.2.2.2.2.2.1, hh9.2.2.2.2.2.2.1, hh9.2.2.2.2.2.2.2.1, hh9.2.2.2.2.2.2.2.2.1, hh9.2.2.2.2.2.2.2.2.2.1, hh9.2.2.2.2.2.2.2.2.2.2.1, hh9.2.2.2.2.2.2.2.2.2.2.2.1, hh9.2.2.2.2.2.2.2.2.2.2.2.2.1, hh9.2.2.2.2.2.2.2.2.2.2.2.2.2.1, hh9.2.2.2.2.2.2.2.2.2.2.2.2.2.2.1, hh9.2.2.2.2.2.2.2.2.2.2.2.2.2.2.2.2.2.2⟩
      case measure => simp [intOf]; omega
    · obtain rfl : q = n := by omega
      go_wp2_with fail
      go_ret
      exact ⟨ret_int (by rw [List.take_of_length_le (by rw [HN2.out]; omega)]), sr.2.2.2.2.2.2.2.2.2.2.2.2.2.2.2⟩

set_option maxRecDepth 100000 in
set_option maxHeartbeats 4000000 in
theorem specStrengthAt_any (At Ak : Option Addr) (nt nk ct ck : Nat) (l : List Ter) (m : List Knd) (a b c d e W H : Int) (x r y : Value) (lt lr ld : List Int) (T Z : Int) (u : Value) (us : List Uni) (sd i : Int) (w : World) (hB : BrdAt w At Ak nt nk l m x r y lt lr ld) (hS : StaAt w u us) :
    Calls Tryd.prog 20 #[bv (.slice At nt ct) (.slice Ak nk ck) a b c d e W H x r y, sv T Z u, .int .i64 sd, .int .i64 i] w fun e' w' => e' = .returned (ib (((brdOk ⟨l, m, a, b, c, d, e⟩ W H lt lr ld && staOk ⟨l, m, a, b, c, d, e⟩ W H lt T Z us) && onI W H i) && spB 0 1 sd) (sumU (strU m) us (unL (inHexS i sd) us us.length))) ∧ Kp w w' := by
  have KA : Kp w ((w.alloc (.cells #[.slice At nt ct, .slice Ak nk ck, .int .i64 a, .int .i64 b, .int .i64 c, .int .i64 d, .int .i64 e, .int .i64 W, .int .i64 H, x, r, y] 44)).alloc (.cells #[.int .i64 T, .int .i64 Z, u] 48)) := ((Kp.refl w).alloc _).alloc _
  have s0 : ((w.alloc (.cells #[.slice At nt ct, .slice Ak nk ck, .int .i64 a, .int .i64 b, .int .i64 c, .int .i64 d, .int .i64 e, .int .i64 W, .int .i64 H, x, r, y] 44)).alloc (.cells #[.int .i64 T, .int .i64 Z, u] 48)).cell? ⟨w.heap.size, 0, none⟩ = some (.slice At nt ct) ∧ ((w.alloc (.cells #[.slice At nt ct, .slice Ak nk ck, .int .i64 a, .int .i64 b, .int .i64 c, .int .i64 d, .int .i64 e, .int .i64 W, .int .i64 H, x, r, y] 44)).alloc (.cells #[.int .i64 T, .int .i64 Z, u] 48)).cell? ⟨w.heap.size, 1, none⟩ = some (.slice Ak nk ck) ∧ ((w.alloc (.cells #[.slice At nt ct, .slice Ak nk ck, .int .i64 a, .int .i64 b, .int .i64 c, .int .i64 d, .int .i64 e, .int .i64 W, .int .i64 H, x, r, y] 44)).alloc (.cells #[.int .i64 T, .int .i64 Z, u] 48)).cell? ⟨w.heap.size, 2, none⟩ = some (.int .i64 a) ∧ ((w.alloc (.cells #[.slice At nt ct, .slice Ak nk ck, .int .i64 a, .int .i64 b, .int .i64 c, .int .i64 d, .int .i64 e, .int .i64 W, .int .i64 H, x, r, y] 44)).alloc (.cells #[.int .i64 T, .int .i64 Z, u] 48)).cell? ⟨w.heap.size, 3, none⟩ = some (.int .i64 b) ∧ ((w.alloc (.cells #[.slice At nt ct, .slice Ak nk ck, .int .i64 a, .int .i64 b, .int .i64 c, .int .i64 d, .int .i64 e, .int .i64 W, .int .i64 H, x, r, y] 44)).alloc (.cells #[.int .i64 T, .int .i64 Z, u] 48)).cell? ⟨w.heap.size, 4, none⟩ = some (.int .i64 c) ∧ ((w.alloc (.cells #[.slice At nt ct, .slice Ak nk ck, .int .i64 a, .int .i64 b, .int .i64 c, .int .i64 d, .int .i64 e, .int .i64 W, .int .i64 H, x, r, y] 44)).alloc (.cells #[.int .i64 T, .int .i64 Z, u] 48)).cell? ⟨w.heap.size, 5, none⟩ = some (.int .i64 d) ∧ ((w.alloc (.cells #[.slice At nt ct, .slice Ak nk ck, .int .i64 a, .int .i64 b, .int .i64 c, .int .i64 d, .int .i64 e, .int .i64 W, .int .i64 H, x, r, y] 44)).alloc (.cells #[.int .i64 T, .int .i64 Z, u] 48)).cell? ⟨w.heap.size, 6, none⟩ = some (.int .i64 e) ∧ ((w.alloc (.cells #[.slice At nt ct, .slice Ak nk ck, .int .i64 a, .int .i64 b, .int .i64 c, .int .i64 d, .int .i64 e, .int .i64 W, .int .i64 H, x, r, y] 44)).alloc (.cells #[.int .i64 T, .int .i64 Z, u] 48)).cell? ⟨w.heap.size, 7, none⟩ = some (.int .i64 W) ∧ ((w.alloc (.cells #[.slice At nt ct, .slice Ak nk ck, .int .i64 a, .int .i64 b, .int .i64 c, .int .i64 d, .int .i64 e, .int .i64 W, .int .i64 H, x, r, y] 44)).alloc (.cells #[.int .i64 T, .int .i64 Z, u] 48)).cell? ⟨w.heap.size, 8, none⟩ = some (.int .i64 H) ∧ ((w.alloc (.cells #[.slice At nt ct, .slice Ak nk ck, .int .i64 a, .int .i64 b, .int .i64 c, .int .i64 d, .int .i64 e, .int .i64 W, .int .i64 H, x, r, y] 44)).alloc (.cells #[.int .i64 T, .int .i64 Z, u] 48)).cell? ⟨w.heap.size, 9, none⟩ = some (x) ∧ ((w.alloc (.cells #[.slice At nt ct, .slice Ak nk ck, .int .i64 a, .int .i64 b, .int .i64 c, .int .i64 d, .int .i64 e, .int .i64 W, .int .i64 H, x, r, y] 44)).alloc (.cells #[.int .i64 T, .int .i64 Z, u] 48)).cell? ⟨w.heap.size, 10, none⟩ = some (r) ∧ ((w.alloc (.cells #[.slice At nt ct, .slice Ak nk ck, .int .i64 a, .int .i64 b, .int .i64 c, .int .i64 d, .int .i64 e, .int .i64 W, .int .i64 H, x, r, y] 44)).alloc (.cells #[.int .i64 T, .int .i64 Z, u] 48)).cell? ⟨w.heap.size, 11, none⟩ = some (y) ∧ ((w.alloc (.cells #[.slice At nt ct, .slice Ak nk ck, .int .i64 a, .int .i64 b, .int .i64 c, .int .i64 d, .int .i64 e, .int .i64 W, .int .i64 H, x, r, y] 44)).alloc (.cells #[.int .i64 T, .int .i64 Z, u] 48)).cell? ⟨w.heap.size + 1, 0, none⟩ = some (.int .i64 T) ∧ ((w.alloc (.cells #[.slice At nt ct, .slice Ak nk ck, .int .i64 a, .int .i64 b, .int .i64 c, .int .i64 d, .int .i64 e, .int .i64 W, .int .i64 H, x, r, y] 44)).alloc (.cells #[.int .i64 T, .int .i64 Z, u] 48)).cell? ⟨w.heap.size + 1, 1, none⟩ = some (.int .i64 Z) ∧ ((w.alloc (.cells #[.slice At nt ct, .slice Ak nk ck, .int .i64 a, .int .i64 b, .int .i64 c, .int .i64 d, .int .i64 e, .int .i64 W, .int .i64 H, x, r, y] 44)).alloc (.cells #[.int .i64 T, .int .i64 Z, u] 48)).cell? ⟨w.heap.size + 1, 2, none⟩ = some (u) ∧ Kp w ((w.alloc (.cells #[.slice At nt ct, .slice Ak nk ck, .int .i64 a, .int .i64 b, .int .i64 c, .int .i64 d, .int .i64 e, .int .i64 W, .int .i64 H, x, r, y] 44)).alloc (.cells #[.int .i64 T, .int .i64 Z, u] 48)) := ⟨by simp [go_sem], by simp [go_sem], by simp [go_sem], by simp [go_sem], by simp [go_sem], by simp [go_sem], by simp [go_sem], by simp [go_sem], by simp [go_sem], by simp [go_sem], by simp [go_sem], by simp [go_sem], by simp [go_sem], by simp [go_sem], by simp [go_sem], KA⟩
  have C2 := Lib.hid (sHex_any At Ak nt nk ct ck l m a b c d e W H x r y lt lr ld T Z u us i _ (hB.keep KA) (hS.keep KA))
  have HS := Lib.hid hS
  have HB := Lib.hid hB
  cases ho : (brdOk ⟨l, m, a, b, c, d, e⟩ W H lt lr ld && staOk ⟨l, m, a, b, c, d, e⟩ W H lt T Z us) && onI W H i
  · rw [ho] at C2
    clear hB hS ho
    go_enter Tryd.func20, Tryd.ntmps20
    go_wp2_with fail
    refine C2.out.mono ?_
    rintro e1 w1 ⟨rfl, k1⟩
    go_wp2_with fail
    go_ret2
    exact ⟨rfl, KA.trans k1⟩
  rw [ho] at C2
  rw [Bool.true_and]
  have CL : Hid (∀ w, Calls Tryd.prog 42 #[.int .i64 sd, .int .i64 0, .int .i64 1] w fun e w' => e = .returned (.bool (spB 0 1 sd)) ∧ w = w') := Lib.hid fun w => l1In_sp sd 0 1 w
  cases hsd : spB 0 1 sd
  · rw [hsd] at CL
    clear hB hS ho hsd
    go_enter Tryd.func20, Tryd.ntmps20
    go_wp2_with fail
    refine C2.out.mono ?_
    rintro e1 w1 ⟨rfl, k1⟩
    go_wp2_with fail
    refine (CL.out _).mono ?_
    rintro e2 w2 ⟨rfl, rfl⟩
    go_wp2_with fail
    go_ret2
    exact ⟨rfl, KA.trans k1⟩
  · rw [hsd] at CL
    have hok : brdOk ⟨l, m, a, b, c, d, e⟩ W H lt lr ld = true := by
      simp only [Bool.and_eq_true] at ho
      exact ho.1.1
    have hst : staOk ⟨l, m, a, b, c, d, e⟩ W H lt T Z us = true := by
      simp only [Bool.and_eq_true] at ho
      exact ho.1.2
    have CT : Hid (∀ w, BrdAt w At Ak nt nk l m x r y lt lr ld → StaAt w u us → Calls Tryd.prog 46 #[bv (.slice At nt ct) (.slice Ak nk ck) a b c d e W H x r y, sv T Z u, .int .i64 sd, .int .i64 i] w fun e' w' => e' = .returned (.int .i64 (sumU (strU m) us (unL (inHexS i sd) us us.length))) ∧ Kp w w') := Lib.hid fun w hB hS => by
      obtain ⟨A, cp, rfl, _⟩ := hS.rd
      obtain ⟨gk, ok, rfl, _⟩ := hB.R.rk.2 (by have := (rulOk_nt (brdOk_rul hok)).2.1; have := hB.R.rk.1; omega)
      exact sStrength_any At nt nk ct ck l m a b c d e W H x r y lt lr ld gk ok T Z A us.length cp us sd i w hB hS rfl hok hst
    show Calls _ _ _ w (fun e' w' => e' = .returned (.tuple #[.int .i64 (sumU (strU m) us (unL (inHexS i sd) us us.length)), .bool true]) ∧ Kp w w')
    generalize sumU (strU m) us (unL (inHexS i sd) us us.length) = X at CT ⊢
    clear hB hS ho hsd hok hst
    go_enter Tryd.func20, Tryd.ntmps20
    go_wp2_with fail
    refine C2.out.mono ?_
    rintro e1 w1 ⟨rfl, k1⟩
    have s1 := keepy15 k1 s0
    clear s0 k1
    go_wp2_with fail
    refine (CL.out _).mono ?_
    rintro e2 w2 ⟨rfl, rfl⟩
    go_wp2_with fail
    refine (CT.out _ (HB.out.keep s1.2.2.2.2.2.2.2.2.2.2.2.2.2.2.2) (HS.out.keep s1.2.2.2.2.2.2.2.2.2.2.2.2.2.2.2)).mono ?_
    rintro e3 w3 ⟨rfl, k3⟩
    go_wp2_with fail
    go_ret2
    exact ⟨rfl, s1.2.2.2.2.2.2.2.2.2.2.2.2.2.2.2.trans k3⟩

set_option maxRecDepth 100000 in
set_option maxHeartbeats 4000000 in
theorem strength_go (At : Option Addr) (nt nk ct ck : Nat) (l : List Ter) (m : List Knd) (a b c d e W H : Int) (x r y : Value) (lt lr ld : List Int) (gk ok : Nat) (T Z : Int) (A : Option Addr) (N cp : Nat) (us : List Uni) (sd i : Int) (w : World) (hs : Spans w) (ht : Tab w) (hu : SpU w) (hB : BrdAt w At (some ⟨gk, ok, none⟩) nt nk l m x r y lt lr ld) (hS : StaAt w (.slice A N cp) us) (hN : us.length = N) (ho : (brdOk ⟨l, m, a, b, c, d, e⟩ W H lt lr ld && staOk ⟨l, m, a, b, c, d, e⟩ W H lt T Z us) = true) (hon : onI W H i = true) (hsd : spB 0 1 sd = true) :
    Calls Tryd.prog 21 #[bv (.slice At nt ct) (.slice (some ⟨gk, ok, none⟩) nk ck) a b c d e W H x r y, sv T Z (.slice A N cp), .int .i64 sd, .int .i64 i] w fun e' w' => e' = .returned (.tuple #[.int .i64 (sumU (strU m) us (unL (inHexS i sd) us us.length)), .bool true]) ∧ Kp w w' := by
  have KA : Kp w ((w.alloc (.cells #[.slice At nt ct, .slice (some ⟨gk, ok, none⟩) nk ck, .int .i64 a, .int .i64 b, .int .i64 c, .int .i64 d, .int .i64 e, .int .i64 W, .int .i64 H, x, r, y] 44)).alloc (.cells #[.int .i64 T, .int .i64 Z, .slice A N cp] 48)) := ((Kp.refl w).alloc _).alloc _
  have s0 : ((w.alloc (.cells #[.slice At nt ct, .slice (some ⟨gk, ok, none⟩) nk ck, .int .i64 a, .int .i64 b, .int .i64 c, .int .i64 d, .int .i64 e, .int .i64 W, .int .i64 H, x, r, y] 44)).alloc (.cells #[.int .i64 T, .int .i64 Z, .slice A N cp] 48)).cell? ⟨w.heap.size, 0, none⟩ = some (.slice At nt ct) ∧ ((w.alloc (.cells #[.slice At nt ct, .slice (some ⟨gk, ok, none⟩) nk ck, .int .i64 a, .int .i64 b, .int .i64 c, .int .i64 d, .int .i64 e, .int .i64 W, .int .i64 H, x, r, y] 44)).alloc (.cells #[.int .i64 T, .int .i64 Z, .slice A N cp] 48)).cell? ⟨w.heap.size, 1, none⟩ = some (.slice (some ⟨gk, ok, none⟩) nk ck) ∧ ((w.alloc (.cells #[.slice At nt ct, .slice (some ⟨gk, ok, none⟩) nk ck, .int .i64 a, .int .i64 b, .int .i64 c, .int .i64 d, .int .i64 e, .int .i64 W, .int .i64 H, x, r, y] 44)).alloc (.cells #[.int .i64 T, .int .i64 Z, .slice A N cp] 48)).cell? ⟨w.heap.size, 2, none⟩ = some (.int .i64 a) ∧ ((w.alloc (.cells #[.slice At nt ct, .slice (some ⟨gk, ok, none⟩) nk ck, .int .i64 a, .int .i64 b, .int .i64 c, .int .i64 d, .int .i64 e, .int .i64 W, .int .i64 H, x, r, y] 44)).alloc (.cells #[.int .i64 T, .int .i64 Z, .slice A N cp] 48)).cell? ⟨w.heap.size, 3, none⟩ = some (.int .i64 b) ∧ ((w.alloc (.cells #[.slice At nt ct, .slice (some ⟨gk, ok, none⟩) nk ck, .int .i64 a, .int .i64 b, .int .i64 c, .int .i64 d, .int .i64 e, .int .i64 W, .int .i64 H, x, r, y] 44)).alloc (.cells #[.int .i64 T, .int .i64 Z, .slice A N cp] 48)).cell? ⟨w.heap.size, 4, none⟩ = some (.int .i64 c) ∧ ((w.alloc (.cells #[.slice At nt ct, .slice (some ⟨gk, ok, none⟩) nk ck, .int .i64 a, .int .i64 b, .int .i64 c, .int .i64 d, .int .i64 e, .int .i64 W, .int .i64 H, x, r, y] 44)).alloc (.cells #[.int .i64 T, .int .i64 Z, .slice A N cp] 48)).cell? ⟨w.heap.size, 5, none⟩ = some (.int .i64 d) ∧ ((w.alloc (.cells #[.slice At nt ct, .slice (some ⟨gk, ok, none⟩) nk ck, .int .i64 a, .int .i64 b, .int .i64 c, .int .i64 d, .int .i64 e, .int .i64 W, .int .i64 H, x, r, y] 44)).alloc (.cells #[.int .i64 T, .int .i64 Z, .slice A N cp] 48)).cell? ⟨w.heap.size, 6, none⟩ = some (.int .i64 e) ∧ ((w.alloc (.cells #[.slice At nt ct, .slice (some ⟨gk, ok, none⟩) nk ck, .int .i64 a, .int .i64 b, .int .i64 c, .int .i64 d, .int .i64 e, .int .i64 W, .int .i64 H, x, r, y] 44)).alloc (.cells #[.int .i64 T, .int .i64 Z, .slice A N cp] 48)).cell? ⟨w.heap.size, 7, none⟩ = some (.int .i64 W) ∧ ((w.alloc (.cells #[.slice At nt ct, .slice (some ⟨gk, ok, none⟩) nk ck, .int .i64 a, .int .i64 b, .int .i64 c, .int .i64 d, .int .i64 e, .int .i64 W, .int .i64 H, x, r, y] 44)).alloc (.cells #[.int .i64 T, .int .i64 Z, .slice A N cp] 48)).cell? ⟨w.heap.size, 8, none⟩ = some (.int .i64 H) ∧ ((w.alloc (.cells #[.slice At nt ct, .slice (some ⟨gk, ok, none⟩) nk ck, .int .i64 a, .int .i64 b, .int .i64 c, .int .i64 d, .int .i64 e, .int .i64 W, .int .i64 H, x, r, y] 44)).alloc (.cells #[.int .i64 T, .int .i64 Z, .slice A N cp] 48)).cell? ⟨w.heap.size, 9, none⟩ = some (x) ∧ ((w.alloc (.cells #[.slice At nt ct, .slice (some ⟨gk, ok, none⟩) nk ck, .int .i64 a, .int .i64 b, .int .i64 c, .int .i64 d, .int .i64 e, .int .i64 W, .int .i64 H, x, r, y] 44)).alloc (.cells #[.int .i64 T, .int .i64 Z, .slice A N cp] 48)).cell? ⟨w.heap.size, 10, none⟩ = some (r) ∧ ((w.alloc (.cells #[.slice At nt ct, .slice (some ⟨gk, ok, none⟩) nk ck, .int .i64 a, .int .i64 b, .int .i64 c, .int .i64 d, .int .i64 e, .int .i64 W, .int .i64 H, x, r, y] 44)).alloc (.cells #[.int .i64 T, .int .i64 Z, .slice A N cp] 48)).cell? ⟨w.heap.size, 11, none⟩ = some (y) ∧ ((w.alloc (.cells #[.slice At nt ct, .slice (some ⟨gk, ok, none⟩) nk ck, .int .i64 a, .int .i64 b, .int .i64 c, .int .i64 d, .int .i64 e, .int .i64 W, .int .i64 H, x, r, y] 44)).alloc (.cells #[.int .i64 T, .int .i64 Z, .slice A N cp] 48)).cell? ⟨w.heap.size + 1, 0, none⟩ = some (.int .i64 T) ∧ ((w.alloc (.cells #[.slice At nt ct, .slice (some ⟨gk, ok, none⟩) nk ck, .int .i64 a, .int .i64 b, .int .i64 c, .int .i64 d, .int .i64 e, .int .i64 W, .int .i64 H, x, r, y] 44)).alloc (.cells #[.int .i64 T, .int .i64 Z, .slice A N cp] 48)).cell? ⟨w.heap.size + 1, 1, none⟩ = some (.int .i64 Z) ∧ ((w.alloc (.cells #[.slice At nt ct, .slice (some ⟨gk, ok, none⟩) nk ck, .int .i64 a, .int .i64 b, .int .i64 c, .int .i64 d, .int .i64 e, .int .i64 W, .int .i64 H, x, r, y] 44)).alloc (.cells #[.int .i64 T, .int .i64 Z, .slice A N cp] 48)).cell? ⟨w.heap.size + 1, 2, none⟩ = some (.slice A N cp) ∧ ((w.alloc (.cells #[.slice At nt ct, .slice (some ⟨gk, ok, none⟩) nk ck, .int .i64 a, .int .i64 b, .int .i64 c, .int .i64 d, .int .i64 e, .int .i64 W, .int .i64 H, x, r, y] 44)).alloc (.cells #[.int .i64 T, .int .i64 Z, .slice A N cp] 48)).cell? ⟨0, 0, none⟩ = some (.int .i64 0) ∧ ((w.alloc (.cells #[.slice At nt ct, .slice (some ⟨gk, ok, none⟩) nk ck, .int .i64 a, .int .i64 b, .int .i64 c, .int .i64 d, .int .i64 e, .int .i64 W, .int .i64 H, x, r, y] 44)).alloc (.cells #[.int .i64 T, .int .i64 Z, .slice A N cp] 48)).cell? ⟨0, 1, none⟩ = some (.int .i64 1) ∧ Kp w ((w.alloc (.cells #[.slice At nt ct, .slice (some ⟨gk, ok, none⟩) nk ck, .int .i64 a, .int .i64 b, .int .i64 c, .int .i64 d, .int .i64 e, .int .i64 W, .int .i64 H, x, r, y] 44)).alloc (.cells #[.int .i64 T, .int .i64 Z, .slice A N cp] 48)) := ⟨by simp [go_sem], by simp [go_sem], by simp [go_sem], by simp [go_sem], by simp [go_sem], by simp [go_sem], by simp [go_sem], by simp [go_sem], by simp [go_sem], by simp [go_sem], by simp [go_sem], by simp [go_sem], by simp [go_sem], by simp [go_sem], by simp [go_sem], KA.cell hu.side.1, KA.cell hu.side.2, KA⟩
  have C1 := Lib.hid (isStateOn_any At (some ⟨gk, ok, none⟩) nt nk ct ck l m a b c d e W H x r y lt lr ld T Z (.slice A N cp) us _ (hs.keep KA) (ht.keep KA) (hu.keep KA) (hB.keep KA) (hS.keep KA))
  rw [ho] at C1
  have hok : brdOk ⟨l, m, a, b, c, d, e⟩ W H lt lr ld = true := by
    simp only [Bool.and_eq_true] at ho
    exact ho.1
  have hst : staOk ⟨l, m, a, b, c, d, e⟩ W H lt T Z us = true := by
    simp only [Bool.and_eq_true] at ho
    exact ho.2
  obtain ⟨p1, p2, p3, p4⟩ := mapOk_side (brdOk_map hok)
  have CIX : Hid (∀ w, Calls Tryd.prog 40 #[mp W H x r y, .int .i64 i] w fun e' w' => e' = .returned (.bool (onI W H i)) ∧ Kp w w') := Lib.hid fun w => isIndex_any W H x r y i w p1 p2 p3 p4
  rw [hon] at CIX
  have CH : Hid (∀ w, Calls Tryd.prog 44 #[.agg #[.int .i64 0, .int .i64 1], .int .i64 sd] w fun e' w' => e' = .returned (.bool true) ∧ Kp w w') := Lib.hid fun w => by
    have := has_any 0 1 (sd) w
    rw [show spB 0 1 (sd) = true from hsd] at this
    exact this
  have hbk := hB.R.bk
  obtain ⟨_, hn12, hall, _⟩ := staOk_parts hst
  have HN := Lib.hid hN
  have HA : Hid (0 < N → ∃ g off, A = some ⟨g, off, none⟩ ∧ ∀ i x, us[i]? = some x → UniAt w g (off + i * 4) x) := Lib.hid (by
    obtain ⟨A', c', e', h'⟩ := hS.rd
    simp only [Value.slice.injEq] at e'
    obtain ⟨rfl, _, rfl⟩ := e'
    rw [hN] at h'
    exact h')
  obtain ⟨F, hF⟩ : ∃ F : Uni → Bool, F = inHexS i sd := ⟨_, rfl⟩
  rw [← hF]
  have HF := Lib.hid hF
  have HV : Hid (∀ (j : Nat) (u : Uni), us[j]? = some u → ∃ (K : Nat) (kd : Knd), u.k = K ∧ K < nk ∧ w.cell? ⟨gk, ok + K * 6 + 1, none⟩ = some (.int .i64 kd.str) ∧ strU m u = kd.str * u.t ∧ (1 ≤ kd.str ∧ kd.str ≤ 9) ∧ (0 ≤ u.t ∧ u.t ≤ 4)) := Lib.hid fun j u h => by
    obtain ⟨K, kd, e1, e2, e3, e4, e5, e6, _⟩ := uni_vals hok hall h
    have hml := hB.R.rk.1
    obtain ⟨g', o', eg, hck⟩ := hB.R.rk.2 (by simp only at e2; omega)
    simp only [Option.some.injEq, Addr.mk.injEq, and_true] at eg
    obtain ⟨rfl, rfl⟩ := eg
    obtain ⟨_, q1, _⟩ := hck K kd e3
    exact ⟨K, kd, e1, by simp only at e2; omega, q1, e4, e5, e6⟩
  have SB : Hid (∀ M : List Int, 0 ≤ sumU (strU m) us M ∧ sumU (strU m) us M ≤ 36 * (M.length : Int)) := Lib.hid (sumU_bd (by omega) fun u hu => by
    obtain ⟨j, hj, rfl⟩ := List.mem_iff_getElem.1 hu
    obtain ⟨K, kd, _, _, _, e4, e5, e6⟩ := HV.out j _ (List.getElem?_eq_getElem hj)
    rw [e4]
    exact mul_bd36 e5.1 e5.2 e6.1 e6.2)
  rw [hN]
  have hn12' : N ≤ 12 := by omega
  clear hs ht hu hB hS hN ho hon hsd hok hst p1 p2 p3 p4 hall hF
  go_enter Tryd.func21, Tryd.ntmps21
  go_wp2_with fail
  refine C1.out.mono ?_
  rintro e1 w1 ⟨rfl, k1⟩
  have s1 := keepy17 k1 s0
  clear s0 k1
  go_wp2_with fail
  refine (CH.out _).mono ?_
  rintro e2 w2 ⟨rfl, k2⟩
  have s2 := keepy17 k2 s1
  clear s1 k2
  go_wp2_with fail
  refine (CIX.out _).mono ?_
  rintro e3 w3 ⟨rfl, k3⟩
  have s3 := keepy17 k3 s2
  clear s2 k3
  go_wp2_with fail
  go_loopw [10, 33] (fun acc iq wx => ∃ q : Nat, q ≤ N ∧ iq = .int .i64 q ∧ acc = .int .i64 (sumU (strU m) us (unL F us q)) ∧ wx.cell? ⟨w.heap.size, 0, none⟩ = some (.slice At nt ct) ∧ wx.cell? ⟨w.heap.size, 1, none⟩ = some (.slice (some ⟨gk, ok, none⟩) nk ck) ∧ wx.cell? ⟨w.heap.size, 2, none⟩ = some (.int .i64 a) ∧ wx.cell? ⟨w.heap.size, 3, none⟩ = some (.int .i64 b) ∧ wx.cell? ⟨w.heap.size, 4, none⟩ = some (.int .i64 c) ∧ wx.cell? ⟨w.heap.size, 5, none⟩ = some (.int .i64 d) ∧ wx.cell? ⟨w.heap.size, 6, none⟩ = some (.int .i64 e) ∧ wx.cell? ⟨w.heap.size, 7, none⟩ = some (.int .i64 W) ∧ wx.cell? ⟨w.heap.size, 8, none⟩ = some (.int .i64 H) ∧ wx.cell? ⟨w.heap.size, 9, none⟩ = some (x) ∧ wx.cell? ⟨w.heap.size, 10, none⟩ = some (r) ∧ wx.cell? ⟨w.heap.size, 11, none⟩ = some (y) ∧ wx.cell? ⟨w.heap.size + 1, 0, none⟩ = some (.int .i64 T) ∧ wx.cell? ⟨w.heap.size + 1, 1, none⟩ = some (.int .i64 Z) ∧ wx.cell? ⟨w.heap.size + 1, 2, none⟩ = some (.slice A N cp) ∧ Kp w wx) (fun _ iq _ => N - (intOf iq).toNat)
  case atStart => exact ⟨0, by omega, rfl, rfl, s3.1, s3.2.1, s3.2.2.1, s3.2.2.2.1, s3.2.2.2.2.1, s3.2.2.2.2.2.1, s3.2.2.2.2.2.2.1, s3.2.2.2.2.2.2.2.1, s3.2.2.2.2.2.2.2.2.1, s3.2.2.2.2.2.2.2.2.2.1, s3.2.2.2.2.2.2.2.2.2.2.1, s3.2.2.2.2.2.2.2.2.2.2.2.1, s3.2.2.2.2.2.2.2.2.2.2.2.2.1, s3.2.2.2.2.2.2.2.2.2.2.2.2.2.1, s3.2.2.2.2.2.2.2.2.2.2.2.2.2.2.1, s3.2.2.2.2.2.2.2.2.2.2.2.2.2.2.2.2.2⟩
  case round =>
    clear s3
    obtain ⟨q, hq, rfl, rfl, sr⟩ := hrel
    have hb := SB.out (unL F us q)
    have hbl := unL_len F us q
    by_cases hlt : q < N
    · have hlt' : (q : Int) < N := by omega
      obtain ⟨g, off, rfl, hc⟩ := HA.out (by omega)
      obtain ⟨sx, kx, ax, tx, hx⟩ := uni_get HN.out hlt
      obtain ⟨K, kd, ek, hK, qk, e4, e5, e6⟩ := HV.out q _ hx
      obtain ⟨a0, a1, a2, a3⟩ := (hc q _ hx).keep sr.2.2.2.2.2.2.2.2.2.2.2.2.2.2.2
      have qk2 := sr.2.2.2.2.2.2.2.2.2.2.2.2.2.2.2.cell qk
      have hz0 := cell_lt sr.1
      have hz1 := cell_lt sr.2.2.2.2.2.2.2.2.2.2.2.2.1
      have hz2 := cell_lt qk2
      simp only at a0 a1 a2 a3 ek e4 e5 e6
      subst ek
      obtain ⟨stv, hstv⟩ : ∃ z, kd.str = z := ⟨_, rfl⟩
      rw [hstv] at qk2 e4 e5
      have hm := mul_bd36 e5.1 e5.2 e6.1 e6.2
      by_cases m1 : sx = sd
      · subst m1
        by_cases m2 : ax = i
        · subst m2
          have HSX : Hid (sumU (strU m) us (unL F us (q + 1)) = sumU (strU m) us (unL F us q) + stv * tx) := Lib.hid (by
            rw [unL_yes hx (by rw [HF.out]; simp [inHexS]), sumU_snoc hx, e4])
          obtain ⟨acc, hacc⟩ : ∃ z, sumU (strU m) us (unL F us q) = z := ⟨_, rfl⟩
          rw [hacc] at hb HSX ⊢
          have em : IntKind.i64.wrap (stv * tx) = stv * tx := IntWalk.i64_in _ (by omega)
          have ea : IntKind.i64.wrap (acc + stv * tx) = acc + stv * tx := IntWalk.i64_in _ (by omega)
          have hkI : (K : Int) < nk := by omega
          have hkO : ((K : Int)).toNat = K := by omega
          have kbw : Kp wr (wr.alloc (.cells #[.int .i64 sx, .int .i64 (K : Int), .int .i64 ax, .int .i64 tx] 84)) := (Kp.refl wr).alloc _
          have s4 : (wr.alloc (.cells #[.int .i64 sx, .int .i64 (K : Int), .int .i64 ax, .int .i64 tx] 84)).cell? ⟨w.heap.size, 0, none⟩ = some (.slice At nt ct) ∧ (wr.alloc (.cells #[.int .i64 sx, .int .i64 (K : Int), .int .i64 ax, .int .i64 tx] 84)).cell? ⟨w.heap.size, 1, none⟩ = some (.slice (some ⟨gk, ok, none⟩) nk ck) ∧ (wr.alloc (.cells #[.int .i64 sx, .int .i64 (K : Int), .int .i64 ax, .int .i64 tx] 84)).cell? ⟨w.heap.size, 2, none⟩ = some (.int .i64 a) ∧ (wr.alloc (.cells #[.int .i64 sx, .int .i64 (K : Int), .int .i64 ax, .int .i64 tx] 84)).cell? ⟨w.heap.size, 3, none⟩ = some (.int .i64 b) ∧ (wr.alloc (.cells #[.int .i64 sx, .int .i64 (K : Int), .int .i64 ax, .int .i64 tx] 84)).cell? ⟨w.heap.size, 4, none⟩ = some (.int .i64 c) ∧ (wr.alloc (.cells #[.int .i64 sx, .int .i64 (K : Int), .int .i64 ax, .int .i64 tx] 84)).cell? ⟨w.heap.size, 5, none⟩ = some (.int .i64 d) ∧ (wr.alloc (.cells #[.int .i64 sx, .int .i64 (K : Int), .int .i64 ax, .int .i64 tx] 84)).cell? ⟨w.heap.size, 6, none⟩ = some (.int .i64 e) ∧ (wr.alloc (.cells #[.int .i64 sx, .int .i64 (K : Int), .int .i64 ax, .int .i64 tx] 84)).cell? ⟨w.heap.size, 7, none⟩ = some (.int .i64 W) ∧ (wr.alloc (.cells #[.int .i64 sx, .int .i64 (K : Int), .int .i64 ax, .int .i64 tx] 84)).cell? ⟨w.heap.size, 8, none⟩ = some (.int .i64 H) ∧ (wr.alloc (.cells #[.int .i64 sx, .int .i64 (K : Int), .int .i64 ax, .int .i64 tx] 84)).cell? ⟨w.heap.size, 9, none⟩ = some (x) ∧ (wr.alloc (.cells #[.int .i64 sx, .int .i64 (K : Int), .int .i64 ax, .int .i64 tx] 84)).cell? ⟨w.heap.size, 10, none⟩ = some (r) ∧ (wr.alloc (.cells #[.int .i64 sx, .int .i64 (K : Int), .int .i64 ax, .int .i64 tx] 84)).cell? ⟨w.heap.size, 11, none⟩ = some (y) ∧ (wr.alloc (.cells #[.int .i64 sx, .int .i64 (K : Int), .int .i64 ax, .int .i64 tx] 84)).cell? ⟨w.heap.size + 1, 0, none⟩ = some (.int .i64 T) ∧ (wr.alloc (.cells #[.int .i64 sx, .int .i64 (K : Int), .int .i64 ax, .int .i64 tx] 84)).cell? ⟨w.heap.size + 1, 1, none⟩ = some (.int .i64 Z) ∧ (wr.alloc (.cells #[.int .i64 sx, .int .i64 (K : Int), .int .i64 ax, .int .i64 tx] 84)).cell? ⟨w.heap.size + 1, 2, none⟩ = some (.slice (some ⟨g, off, none⟩) N cp) ∧ (wr.alloc (.cells #[.int .i64 sx, .int .i64 (K : Int), .int .i64 ax, .int .i64 tx] 84)).cell? ⟨wr.heap.size, 0, none⟩ = some (.int .i64 sx) ∧ (wr.alloc (.cells #[.int .i64 sx, .int .i64 (K : Int), .int .i64 ax, .int .i64 tx] 84)).cell? ⟨wr.heap.size, 1, none⟩ = some (.int .i64 (K : Int)) ∧ (wr.alloc (.cells #[.int .i64 sx, .int .i64 (K : Int), .int .i64 ax, .int .i64 tx] 84)).cell? ⟨wr.heap.size, 2, none⟩ = some (.int .i64 ax) ∧ (wr.alloc (.cells #[.int .i64 sx, .int .i64 (K : Int), .int .i64 ax, .int .i64 tx] 84)).cell? ⟨wr.heap.size, 3, none⟩ = some (.int .i64 tx) ∧ (wr.alloc (.cells #[.int .i64 sx, .int .i64 (K : Int), .int .i64 ax, .int .i64 tx] 84)).cell? ⟨gk, ok + K * 6 + 1, none⟩ = some (.int .i64 stv) ∧ Kp w (wr.alloc (.cells #[.int .i64 sx, .int .i64 (K : Int), .int .i64 ax, .int .i64 tx] 84)) := ⟨kbw.cell sr.1, kbw.cell sr.2.1, kbw.cell sr.2.2.1, kbw.cell sr.2.2.2.1, kbw.cell sr.2.2.2.2.1, kbw.cell sr.2.2.2.2.2.1, kbw.cell sr.2.2.2.2.2.2.1, kbw.cell sr.2.2.2.2.2.2.2.1, kbw.cell sr.2.2.2.2.2.2.2.2.1, kbw.cell sr.2.2.2.2.2.2.2.2.2.1, kbw.cell sr.2.2.2.2.2.2.2.2.2.2.1, kbw.cell sr.2.2.2.2.2.2.2.2.2.2.2.1, kbw.cell sr.2.2.2.2.2.2.2.2.2.2.2.2.1, kbw.cell sr.2.2.2.2.2.2.2.2.2.2.2.2.2.1, kbw.cell sr.2.2.2.2.2.2.2.2.2.2.2.2.2.2.1, by simp [go_sem], by simp [go_sem], by simp [go_sem], by simp [go_sem], kbw.cell qk2, sr.2.2.2.2.2.2.2.2.2.2.2.2.2.2.2.trans kbw⟩
          clear hx hc qk e4 e5 e6 hstv hacc kbw
          go_upto_region 8 with (fail)
          generalize wr.alloc (.cells #[.int .i64 sx, .int .i64 (K : Int), .int .i64 ax, .int .i64 tx] 84) = W1 at *
          have s5 := drewy20 s4
          refine wp_region_held_drew (S := (fun w' => w'.cell? ⟨w.heap.size, 0, none⟩ = some (.slice At nt ct) ∧ w'.cell? ⟨w.heap.size, 1, none⟩ = some (.slice (some ⟨gk, ok, none⟩) nk ck) ∧ w'.cell? ⟨w.heap.size, 2, none⟩ = some (.int .i64 a) ∧ w'.cell? ⟨w.heap.size, 3, none⟩ = some (.int .i64 b) ∧ w'.cell? ⟨w.heap.size, 4, none⟩ = some (.int .i64 c) ∧ w'.cell? ⟨w.heap.size, 5, none⟩ = some (.int .i64 d) ∧ w'.cell? ⟨w.heap.size, 6, none⟩ = some (.int .i64 e) ∧ w'.cell? ⟨w.heap.size, 7, none⟩ = some (.int .i64 W) ∧ w'.cell? ⟨w.heap.size, 8, none⟩ = some (.int .i64 H) ∧ w'.cell? ⟨w.heap.size, 9, none⟩ = some (x) ∧ w'.cell? ⟨w.heap.size, 10, none⟩ = some (r) ∧ w'.cell? ⟨w.heap.size, 11, none⟩ = some (y) ∧ w'.cell? ⟨w.heap.size + 1, 0, none⟩ = some (.int .i64 T) ∧ w'.cell? ⟨w.heap.size + 1, 1, none⟩ = some (.int .i64 Z) ∧ w'.cell? ⟨w.heap.size + 1, 2, none⟩ = some (.slice (some ⟨g, off, none⟩) N cp) ∧ w'.cell? ⟨wr.heap.size, 0, none⟩ = some (.int .i64 sx) ∧ w'.cell? ⟨wr.heap.size, 1, none⟩ = some (.int .i64 (K : Int)) ∧ w'.cell? ⟨wr.heap.size, 2, none⟩ = some (.int .i64 ax) ∧ w'.cell? ⟨wr.heap.size, 3, none⟩ = some (.int .i64 tx) ∧ w'.cell? ⟨gk, ok + K * 6 + 1, none⟩ = some (.int .i64 stv) ∧ Kp w w')) (by kernel_rfl) ?_ (fun hHeld => ?_)
          · exact s5
          refine wpAnyH_take (i := 0) (oi := ⟨some 47, _, _, _, _, _⟩) (v := ?_) rfl (by kernel_rfl) (by kernel_rfl) (by kernel_rfl) (fun _ _ _ h => h) (Or.inl ⟨by rfl, ?_⟩) (by assumption) ?_
          rotate_left
          · intro w hSw; (try dsimp only at hSw); go_simp; (all_goals with_reducible rfl)
          simp only [Act.put, List.setIfInBounds_toArray, List.set_cons_zero, List.set_cons_succ]
          refine wpAnyH_take (i := 1) (oi := ⟨some 48, _, _, _, _, _⟩) (v := ?_) rfl (by kernel_rfl) (by kernel_rfl) (by kernel_rfl) (fun _ _ _ h => h) (Or.inl ⟨by rfl, ?_⟩) (by assumption) ?_
          rotate_left
          · intro w hSw; (try dsimp only at hSw); go_simp; (all_goals with_reducible rfl)
          simp only [Act.put, List.setIfInBounds_toArray, List.set_cons_zero, List.set_cons_succ]
          refine wpAnyH_take (i := 2) (oi := ⟨some 49, _, _, _, _, _⟩) (v := ?_) rfl (by kernel_rfl) (by kernel_rfl) (by kernel_rfl) (fun _ _ _ h => h) (Or.inl ⟨by rfl, ?_⟩) (by assumption) ?_
          rotate_left
          · intro w hSw; (try dsimp only at hSw); go_simp; (all_goals with_reducible rfl)
          simp only [Act.put, List.setIfInBounds_toArray, List.set_cons_zero, List.set_cons_succ]
          refine wpAnyH_take (i := 3) (oi := ⟨some 50, _, _, _, _, _⟩) (v := ?_) rfl (by kernel_rfl) (by kernel_rfl) (by kernel_rfl) (fun _ _ _ h => h) (Or.inl ⟨by rfl, ?_⟩) (by assumption) ?_
          rotate_left
          · intro w hSw; (try dsimp only at hSw); go_simp; (all_goals with_reducible rfl)
          simp only [Act.put, List.setIfInBounds_toArray, List.set_cons_zero, List.set_cons_succ]
          refine wpAnyH_take (i := 4) (oi := ⟨some 51, _, _, _, _, _⟩) (v := ?_) rfl (by kernel_rfl) (by kernel_rfl) (by kernel_rfl) (fun _ _ _ h => h) (Or.inl ⟨by rfl, ?_⟩) (by assumption) ?_
          rotate_left
          · intro w hSw; (try dsimp only at hSw); go_simp; (all_goals with_reducible rfl)
          simp only [Act.put, List.setIfInBounds_toArray, List.set_cons_zero, List.set_cons_succ]
          refine wpAnyH_take (i := 5) (oi := ⟨some 52, _, _, _, _, _⟩) (v := ?_) rfl (by kernel_rfl) (by kernel_rfl) (by kernel_rfl) (fun _ _ _ h => h) (Or.inl ⟨by rfl, ?_⟩) (by assumption) ?_
          rotate_left
          · intro w hSw; (try dsimp only at hSw); go_simp; (all_goals with_reducible rfl)
          simp only [Act.put, List.setIfInBounds_toArray, List.set_cons_zero, List.set_cons_succ]
          refine wpAnyH_take (i := 6) (oi := ⟨some 53, _, _, _, _, _⟩) (v := ?_) rfl (by kernel_rfl) (by kernel_rfl) (by kernel_rfl) (fun _ _ _ h => h) (Or.inl ⟨by rfl, ?_⟩) (by assumption) ?_
          rotate_left
          · intro w hSw; (try dsimp only at hSw); go_simp; (all_goals with_reducible rfl)
          simp only [Act.put, List.setIfInBounds_toArray, List.set_cons_zero, List.set_cons_succ]
          refine wpAnyH_take (i := 7) (oi := ⟨some 54, _, _, _, _, _⟩) (v := ?_) rfl (by kernel_rfl) (by kernel_rfl) (by kernel_rfl) (fun _ _ _ h => h) (Or.inl ⟨by rfl, ?_⟩) (by assumption) ?_
          rotate_left
          · intro w hSw; (try dsimp only at hSw); go_simp; (all_goals with_reducible rfl)
          simp only [Act.put, List.setIfInBounds_toArray, List.set_cons_zero, List.set_cons_succ]
          refine wpAnyH_take (i := 8) (oi := ⟨some 55, _, _, _, _, _⟩) (v := ?_) rfl (by kernel_rfl) (by kernel_rfl) (by kernel_rfl) (fun _ _ _ h => h) (Or.inl ⟨by rfl, ?_⟩) (by assumption) ?_
          rotate_left
          · intro w hSw; (try dsimp only at hSw); go_simp; (all_goals with_reducible rfl)
          simp only [Act.put, List.setIfInBounds_toArray, List.set_cons_zero, List.set_cons_succ]
          refine wpAnyH_take (i := 9) (oi := ⟨some 56, _, _, _, _, _⟩) (v := ?_) rfl (by kernel_rfl) (by kernel_rfl) (by kernel_rfl) (fun _ _ _ h => h) (Or.inl ⟨by rfl, ?_⟩) (by assumption) ?_
          rotate_left
          · intro w hSw; (try dsimp only at hSw); go_simp; (all_goals with_reducible rfl)
          simp only [Act.put, List.setIfInBounds_toArray, List.set_cons_zero, List.set_cons_succ]
          refine wpAnyH_take (i := 10) (oi := ⟨some 57, _, _, _, _, _⟩) (v := ?_) rfl (by kernel_rfl) (by kernel_rfl) (by kernel_rfl) (fun _ _ _ h => h) (Or.inl ⟨by rfl, ?_⟩) (by assumption) ?_
          rotate_left
          · intro w hSw; (try dsimp only at hSw); go_simp; (all_goals with_reducible rfl)
          simp only [Act.put, List.setIfInBounds_toArray, List.set_cons_zero, List.set_cons_succ]
          refine wpAnyH_take (i := 11) (oi := ⟨some 58, _, _, _, _, _⟩) (v := ?_) rfl (by kernel_rfl) (by kernel_rfl) (by kernel_rfl) (fun _ _ _ h => h) (Or.inl ⟨by rfl, ?_⟩) (by assumption) ?_
          rotate_left
          · intro w hSw; (try dsimp only at hSw); go_simp; (all_goals with_reducible rfl)
          simp only [Act.put, List.setIfInBounds_toArray, List.set_cons_zero, List.set_cons_succ]
          refine wpAnyH_take (i := 12) (oi := ⟨some 59, _, _, _, _, _⟩) (v := ?_) rfl (by kernel_rfl) (by kernel_rfl) (by kernel_rfl) (fun _ _ _ h => h) (Or.inl ⟨by rfl, ?_⟩) (by assumption) ?_
          rotate_left
          · intro w hSw; (try dsimp only at hSw); go_simp; (all_goals with_reducible rfl)
          simp only [Act.put, List.setIfInBounds_toArray, List.set_cons_zero, List.set_cons_succ]
          refine wpAnyH_take (i := 13) (oi := ⟨some 10, _, _, _, _, _⟩) (v := ?_) rfl (by kernel_rfl) (by kernel_rfl) (by kernel_rfl) (fun _ _ _ h => h) (Or.inl ⟨by rfl, ?_⟩) (by assumption) ?_
          rotate_left
          · intro w hSw; (try dsimp only at hSw); go_simp; (all_goals with_reducible rfl)
          simp only [Act.put, List.setIfInBounds_toArray, List.set_cons_zero, List.set_cons_succ]
          refine wpAnyH_done (by kernel_rfl) ?_ _
          go_wp2_with fail
          go_roundw
          case rel => exact ⟨q + 1, by omega, by go_num, by rw [HSX.out], hHeld.1, hHeld.2.1, hHeld.2.2.1, hHeld.2.2.2.1, hHeld.2.2.2.2.1, hHeld.2.2.2.2.2.1, hHeld.2.2.2.2.2.2.1, hHeld.2.2.2.2.2.2.2.1, hHeld.2.2.2.2.2.2.2.2.1, hHeld.2.2.2.2.2.2.2.2.2.1, hHeld.2.2.2.2.2.2.2.2.2.2.1, hHeld.2.2.2.2.2.2.2.2.2.2.2.1, hHeld.2.2.2.2.2.2.2.2.2.2.2.2.1, hHeld.2.2.2.2.2.2.2.2.2.2.2.2.2.1, hHeld.2.2.2.2.2.2.2.2.2.2.2.2.2.2.1, hHeld.2.2.2.2.2.2.2.2.2.2.2.2.2.2.2.2.2.2.2.2⟩
          case measure => simp [intOf]; omega
        · have hd : (ax == i) = false := by simpa using m2
          have HSX : Hid (sumU (strU m) us (unL F us (q + 1)) = sumU (strU m) us (unL F us q)) := Lib.hid (by rw [unL_no hx (by rw [HF.out]; simp [inHexS, m2])])
          clear hx
          go_wp2_with fail
          have KN : Kp w (wr.alloc (.cells #[.int .i64 sx, .int .i64 (K : Int), .int .i64 ax, .int .i64 tx] 84)) := sr.2.2.2.2.2.2.2.2.2.2.2.2.2.2.2.alloc _
          have kbw : Kp wr (wr.alloc (.cells #[.int .i64 sx, .int .i64 (K : Int), .int .i64 ax, .int .i64 tx] 84)) := (Kp.refl wr).alloc _
          have s9 := keepy15 kbw sr
          go_roundw
          case rel => exact ⟨q + 1, by omega, by go_num, by rw [HSX.out], s9⟩
          case measure => simp [intOf]; omega
      · have hd : (sx == sd) = false := by simpa using m1
        have HSX : Hid (sumU (strU m) us (unL F us (q + 1)) = sumU (strU m) us (unL F us q)) := Lib.hid (by rw [unL_no hx (by rw [HF.out]; simp [inHexS, m1])])
        clear hx
        go_wp2_with fail
        have KN : Kp w (wr.alloc (.cells #[.int .i64 sx, .int .i64 (K : Int), .int .i64 ax, .int .i64 tx] 84)) := sr.2.2.2.2.2.2.2.2.2.2.2.2.2.2.2.alloc _
        have kbw : Kp wr (wr.alloc (.cells #[.int .i64 sx, .int .i64 (K : Int), .int .i64 ax, .int .i64 tx] 84)) := (Kp.refl wr).alloc _
        have s9 := keepy15 kbw sr
        go_roundw
        case rel => exact ⟨q + 1, by omega, by go_num, by rw [HSX.out], s9⟩
        case measure => simp [intOf]; omega
    · obtain rfl : q = N := by omega
      go_wp2_with fail
      go_ret2
      exact ⟨rfl, sr.2.2.2.2.2.2.2.2.2.2.2.2.2.2.2⟩

set_option maxRecDepth 100000 in
set_option maxHeartbeats 4000000 in
theorem strengthAtP_any (At Ak : Option Addr) (nt nk ct ck : Nat) (l : List Ter) (m : List Knd) (a b c d e W H : Int) (x r y : Value) (lt lr ld : List Int) (T Z : Int) (u : Value) (us : List Uni) (sd i : Int) (w : World) (hs : Spans w) (ht : Tab w) (hu : SpU w) (hB : BrdAt w At Ak nt nk l m x r y lt lr ld) (hS : StaAt w u us) :
    Calls Tryd.prog 21 #[bv (.slice At nt ct) (.slice Ak nk ck) a b c d e W H x r y, sv T Z u, .int .i64 sd, .int .i64 i] w fun e' w' => e' = .returned (ib (((brdOk ⟨l, m, a, b, c, d, e⟩ W H lt lr ld && staOk ⟨l, m, a, b, c, d, e⟩ W H lt T Z us) && onI W H i) && spB 0 1 sd) (sumU (strU m) us (unL (inHexS i sd) us us.length))) ∧ Kp w w' := by
  have KA : Kp w ((w.alloc (.cells #[.slice At nt ct, .slice Ak nk ck, .int .i64 a, .int .i64 b, .int .i64 c, .int .i64 d, .int .i64 e, .int .i64 W, .int .i64 H, x, r, y] 44)).alloc (.cells #[.int .i64 T, .int .i64 Z, u] 48)) := ((Kp.refl w).alloc _).alloc _
  have s0 : ((w.alloc (.cells #[.slice At nt ct, .slice Ak nk ck, .int .i64 a, .int .i64 b, .int .i64 c, .int .i64 d, .int .i64 e, .int .i64 W, .int .i64 H, x, r, y] 44)).alloc (.cells #[.int .i64 T, .int .i64 Z, u] 48)).cell? ⟨w.heap.size, 0, none⟩ = some (.slice At nt ct) ∧ ((w.alloc (.cells #[.slice At nt ct, .slice Ak nk ck, .int .i64 a, .int .i64 b, .int .i64 c, .int .i64 d, .int .i64 e, .int .i64 W, .int .i64 H, x, r, y] 44)).alloc (.cells #[.int .i64 T, .int .i64 Z, u] 48)).cell? ⟨w.heap.size, 1, none⟩ = some (.slice Ak nk ck) ∧ ((w.alloc (.cells #[.slice At nt ct, .slice Ak nk ck, .int .i64 a, .int .i64 b, .int .i64 c, .int .i64 d, .int .i64 e, .int .i64 W, .int .i64 H, x, r, y] 44)).alloc (.cells #[.int .i64 T, .int .i64 Z, u] 48)).cell? ⟨w.heap.size, 2, none⟩ = some (.int .i64 a) ∧ ((w.alloc (.cells #[.slice At nt ct, .slice Ak nk ck, .int .i64 a, .int .i64 b, .int .i64 c, .int .i64 d, .int .i64 e, .int .i64 W, .int .i64 H, x, r, y] 44)).alloc (.cells #[.int .i64 T, .int .i64 Z, u] 48)).cell? ⟨w.heap.size, 3, none⟩ = some (.int .i64 b) ∧ ((w.alloc (.cells #[.slice At nt ct, .slice Ak nk ck, .int .i64 a, .int .i64 b, .int .i64 c, .int .i64 d, .int .i64 e, .int .i64 W, .int .i64 H, x, r, y] 44)).alloc (.cells #[.int .i64 T, .int .i64 Z, u] 48)).cell? ⟨w.heap.size, 4, none⟩ = some (.int .i64 c) ∧ ((w.alloc (.cells #[.slice At nt ct, .slice Ak nk ck, .int .i64 a, .int .i64 b, .int .i64 c, .int .i64 d, .int .i64 e, .int .i64 W, .int .i64 H, x, r, y] 44)).alloc (.cells #[.int .i64 T, .int .i64 Z, u] 48)).cell? ⟨w.heap.size, 5, none⟩ = some (.int .i64 d) ∧ ((w.alloc (.cells #[.slice At nt ct, .slice Ak nk ck, .int .i64 a, .int .i64 b, .int .i64 c, .int .i64 d, .int .i64 e, .int .i64 W, .int .i64 H, x, r, y] 44)).alloc (.cells #[.int .i64 T, .int .i64 Z, u] 48)).cell? ⟨w.heap.size, 6, none⟩ = some (.int .i64 e) ∧ ((w.alloc (.cells #[.slice At nt ct, .slice Ak nk ck, .int .i64 a, .int .i64 b, .int .i64 c, .int .i64 d, .int .i64 e, .int .i64 W, .int .i64 H, x, r, y] 44)).alloc (.cells #[.int .i64 T, .int .i64 Z, u] 48)).cell? ⟨w.heap.size, 7, none⟩ = some (.int .i64 W) ∧ ((w.alloc (.cells #[.slice At nt ct, .slice Ak nk ck, .int .i64 a, .int .i64 b, .int .i64 c, .int .i64 d, .int .i64 e, .int .i64 W, .int .i64 H, x, r, y] 44)).alloc (.cells #[.int .i64 T, .int .i64 Z, u] 48)).cell? ⟨w.heap.size, 8, none⟩ = some (.int .i64 H) ∧ ((w.alloc (.cells #[.slice At nt ct, .slice Ak nk ck, .int .i64 a, .int .i64 b, .int .i64 c, .int .i64 d, .int .i64 e, .int .i64 W, .int .i64 H, x, r, y] 44)).alloc (.cells #[.int .i64 T, .int .i64 Z, u] 48)).cell? ⟨w.heap.size, 9, none⟩ = some (x) ∧ ((w.alloc (.cells #[.slice At nt ct, .slice Ak nk ck, .int .i64 a, .int .i64 b, .int .i64 c, .int .i64 d, .int .i64 e, .int .i64 W, .int .i64 H, x, r, y] 44)).alloc (.cells #[.int .i64 T, .int .i64 Z, u] 48)).cell? ⟨w.heap.size, 10, none⟩ = some (r) ∧ ((w.alloc (.cells #[.slice At nt ct, .slice Ak nk ck, .int .i64 a, .int .i64 b, .int .i64 c, .int .i64 d, .int .i64 e, .int .i64 W, .int .i64 H, x, r, y] 44)).alloc (.cells #[.int .i64 T, .int .i64 Z, u] 48)).cell? ⟨w.heap.size, 11, none⟩ = some (y) ∧ ((w.alloc (.cells #[.slice At nt ct, .slice Ak nk ck, .int .i64 a, .int .i64 b, .int .i64 c, .int .i64 d, .int .i64 e, .int .i64 W, .int .i64 H, x, r, y] 44)).alloc (.cells #[.int .i64 T, .int .i64 Z, u] 48)).cell? ⟨w.heap.size + 1, 0, none⟩ = some (.int .i64 T) ∧ ((w.alloc (.cells #[.slice At nt ct, .slice Ak nk ck, .int .i64 a, .int .i64 b, .int .i64 c, .int .i64 d, .int .i64 e, .int .i64 W, .int .i64 H, x, r, y] 44)).alloc (.cells #[.int .i64 T, .int .i64 Z, u] 48)).cell? ⟨w.heap.size + 1, 1, none⟩ = some (.int .i64 Z) ∧ ((w.alloc (.cells #[.slice At nt ct, .slice Ak nk ck, .int .i64 a, .int .i64 b, .int .i64 c, .int .i64 d, .int .i64 e, .int .i64 W, .int .i64 H, x, r, y] 44)).alloc (.cells #[.int .i64 T, .int .i64 Z, u] 48)).cell? ⟨w.heap.size + 1, 2, none⟩ = some (u) ∧ ((w.alloc (.cells #[.slice At nt ct, .slice Ak nk ck, .int .i64 a, .int .i64 b, .int .i64 c, .int .i64 d, .int .i64 e, .int .i64 W, .int .i64 H, x, r, y] 44)).alloc (.cells #[.int .i64 T, .int .i64 Z, u] 48)).cell? ⟨0, 0, none⟩ = some (.int .i64 0) ∧ ((w.alloc (.cells #[.slice At nt ct, .slice Ak nk ck, .int .i64 a, .int .i64 b, .int .i64 c, .int .i64 d, .int .i64 e, .int .i64 W, .int .i64 H, x, r, y] 44)).alloc (.cells #[.int .i64 T, .int .i64 Z, u] 48)).cell? ⟨0, 1, none⟩ = some (.int .i64 1) ∧ Kp w ((w.alloc (.cells #[.slice At nt ct, .slice Ak nk ck, .int .i64 a, .int .i64 b, .int .i64 c, .int .i64 d, .int .i64 e, .int .i64 W, .int .i64 H, x, r, y] 44)).alloc (.cells #[.int .i64 T, .int .i64 Z, u] 48)) := ⟨by simp [go_sem], by simp [go_sem], by simp [go_sem], by simp [go_sem], by simp [go_sem], by simp [go_sem], by simp [go_sem], by simp [go_sem], by simp [go_sem], by simp [go_sem], by simp [go_sem], by simp [go_sem], by simp [go_sem], by simp [go_sem], by simp [go_sem], KA.cell hu.side.1, KA.cell hu.side.2, KA⟩
  have C1 := Lib.hid (isStateOn_any At Ak nt nk ct ck l m a b c d e W H x r y lt lr ld T Z u us _ (hs.keep KA) (ht.keep KA) (hu.keep KA) (hB.keep KA) (hS.keep KA))
  cases ho : brdOk ⟨l, m, a, b, c, d, e⟩ W H lt lr ld && staOk ⟨l, m, a, b, c, d, e⟩ W H lt T Z us
  · rw [ho] at C1
    clear hs ht hu hB hS ho
    go_enter Tryd.func21, Tryd.ntmps21
    go_wp2_with fail
    refine C1.out.mono ?_
    rintro e1 w1 ⟨rfl, k1⟩
    go_wp2_with fail
    go_ret2
    exact ⟨rfl, KA.trans k1⟩
  rw [Bool.true_and]
  rw [ho] at C1
  cases hsd : spB 0 1 sd
  · rw [Bool.and_false]
    have CH : Hid (∀ w, Calls Tryd.prog 44 #[.agg #[.int .i64 0, .int .i64 1], .int .i64 sd] w fun e' w' => e' = .returned (.bool false) ∧ Kp w w') := Lib.hid fun w => by
      have := has_any 0 1 (sd) w
      rw [show spB 0 1 (sd) = false from hsd] at this
      exact this
    clear hs ht hu hB hS ho hsd
    go_enter Tryd.func21, Tryd.ntmps21
    go_wp2_with fail
    refine C1.out.mono ?_
    rintro e1 w1 ⟨rfl, k1⟩
    have s1 := keepy17 k1 s0
    clear s0 k1
    go_wp2_with fail
    refine (CH.out _).mono ?_
    rintro e2 w2 ⟨rfl, k2⟩
    go_wp2_with fail
    go_ret2
    exact ⟨rfl, s1.2.2.2.2.2.2.2.2.2.2.2.2.2.2.2.2.2.trans k2⟩
  have hok : brdOk ⟨l, m, a, b, c, d, e⟩ W H lt lr ld = true := by
    simp only [Bool.and_eq_true] at ho
    exact ho.1
  cases hon : onI W H i
  · obtain ⟨p1, p2, p3, p4⟩ := mapOk_side (brdOk_map hok)
    have CIX : Hid (∀ w, Calls Tryd.prog 40 #[mp W H x r y, .int .i64 i] w fun e' w' => e' = .returned (.bool (onI W H i)) ∧ Kp w w') := Lib.hid fun w => isIndex_any W H x r y i w p1 p2 p3 p4
    rw [hon] at CIX
    have CH : Hid (∀ w, Calls Tryd.prog 44 #[.agg #[.int .i64 0, .int .i64 1], .int .i64 sd] w fun e' w' => e' = .returned (.bool true) ∧ Kp w w') := Lib.hid fun w => by
      have := has_any 0 1 (sd) w
      rw [show spB 0 1 (sd) = true from hsd] at this
      exact this
    clear hs ht hu hB hS ho hsd hon hok p1 p2 p3 p4
    go_enter Tryd.func21, Tryd.ntmps21
    go_wp2_with fail
    refine C1.out.mono ?_
    rintro e1 w1 ⟨rfl, k1⟩
    have s1 := keepy17 k1 s0
    clear s0 k1
    go_wp2_with fail
    refine (CH.out _).mono ?_
    rintro e2 w2 ⟨rfl, k2⟩
    have s2 := keepy17 k2 s1
    clear s1 k2
    go_wp2_with fail
    refine (CIX.out _).mono ?_
    rintro e3 w3 ⟨rfl, k3⟩
    go_wp2_with fail
    go_ret2
    exact ⟨rfl, s2.2.2.2.2.2.2.2.2.2.2.2.2.2.2.2.2.2.trans k3⟩
  · obtain ⟨A, cp, rfl, _⟩ := hS.rd
    obtain ⟨gk, ok, rfl, _⟩ := hB.R.rk.2 (by have := (rulOk_nt (brdOk_rul hok)).2.1; have := hB.R.rk.1; omega)
    exact strength_go At nt nk ct ck l m a b c d e W H x r y lt lr ld gk ok T Z A us.length cp us sd i w hs ht hu hB hS rfl ho hon hsd

end Go.Proofs.YtiaahpcfciomlaaDoor
