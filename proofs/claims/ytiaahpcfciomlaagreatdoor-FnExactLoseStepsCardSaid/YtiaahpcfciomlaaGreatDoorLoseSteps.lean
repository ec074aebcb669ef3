/-
  The law on LoseSteps holds at every argument: the program's answer is the reference's, in memory of its own, and the arguments read as before. The named variables hold what the program's text lays (the card ties them).
-/
import Derived.Test.YtiaahpcfciomlaaGreatDoorLoT
import Derived.Deep.Cut
import Derived.Deep.DeepCutAuto
import Derived.Test.YtiaahpcfciomlaaGreatDoorLoU
import Derived.Test.YtiaahpcfciomlaaGreatDoorTabU
import Derived.Test.YtiaahpcfciomlaaGreatDoorQd
namespace Go.Proofs.YtiaahpcfciomlaaGreatDoor.loseStepsLaw
open Go.ChangeShapes Go.WideShapes Go.ChangeAt Go.RowKit Go.Joins

theorem keep15k {W0 w w1 : World} {p0 p1 p2 p3 p4 p5 p6 p7 p8 p9 p10 p11 p12 p13 p14 : Addr} {v0 v1 v2 v3 v4 v5 v6 v7 v8 v9 v10 v11 v12 v13 v14 : Value} (k : Kp w w1) (h : w.cell? p0 = some v0 ∧ w.cell? p1 = some v1 ∧ w.cell? p2 = some v2 ∧ w.cell? p3 = some v3 ∧ w.cell? p4 = some v4 ∧ w.cell? p5 = some v5 ∧ w.cell? p6 = some v6 ∧ w.cell? p7 = some v7 ∧ w.cell? p8 = some v8 ∧ w.cell? p9 = some v9 ∧ w.cell? p10 = some v10 ∧ w.cell? p11 = some v11 ∧ w.cell? p12 = some v12 ∧ w.cell? p13 = some v13 ∧ w.cell? p14 = some v14 ∧ Kp W0 w) : w1.cell? p0 = some v0 ∧ w1.cell? p1 = some v1 ∧ w1.cell? p2 = some v2 ∧ w1.cell? p3 = some v3 ∧ w1.cell? p4 = some v4 ∧ w1.cell? p5 = some v5 ∧ w1.cell? p6 = some v6 ∧ w1.cell? p7 = some v7 ∧ w1.cell? p8 = some v8 ∧ w1.cell? p9 = some v9 ∧ w1.cell? p10 = some v10 ∧ w1.cell? p11 = some v11 ∧ w1.cell? p12 = some v12 ∧ w1.cell? p13 = some v13 ∧ w1.cell? p14 = some v14 ∧ Kp W0 w1 :=
  ⟨k.cell h.1, k.cell h.2.1, k.cell h.2.2.1, k.cell h.2.2.2.1, k.cell h.2.2.2.2.1, k.cell h.2.2.2.2.2.1, k.cell h.2.2.2.2.2.2.1, k.cell h.2.2.2.2.2.2.2.1, k.cell h.2.2.2.2.2.2.2.2.1, k.cell h.2.2.2.2.2.2.2.2.2.1, k.cell h.2.2.2.2.2.2.2.2.2.2.1, k.cell h.2.2.2.2.2.2.2.2.2.2.2.1, k.cell h.2.2.2.2.2.2.2.2.2.2.2.2.1, k.cell h.2.2.2.2.2.2.2.2.2.2.2.2.2.1, k.cell h.2.2.2.2.2.2.2.2.2.2.2.2.2.2.1, h.2.2.2.2.2.2.2.2.2.2.2.2.2.2.2.trans k⟩
theorem drew15k {W0 w : World} {p0 p1 p2 p3 p4 p5 p6 p7 p8 p9 p10 p11 p12 p13 p14 : Addr} {v0 v1 v2 v3 v4 v5 v6 v7 v8 v9 v10 v11 v12 v13 v14 : Value} (h : w.cell? p0 = some v0 ∧ w.cell? p1 = some v1 ∧ w.cell? p2 = some v2 ∧ w.cell? p3 = some v3 ∧ w.cell? p4 = some v4 ∧ w.cell? p5 = some v5 ∧ w.cell? p6 = some v6 ∧ w.cell? p7 = some v7 ∧ w.cell? p8 = some v8 ∧ w.cell? p9 = some v9 ∧ w.cell? p10 = some v10 ∧ w.cell? p11 = some v11 ∧ w.cell? p12 = some v12 ∧ w.cell? p13 = some v13 ∧ w.cell? p14 = some v14 ∧ Kp W0 w) : w.drew.cell? p0 = some v0 ∧ w.drew.cell? p1 = some v1 ∧ w.drew.cell? p2 = some v2 ∧ w.drew.cell? p3 = some v3 ∧ w.drew.cell? p4 = some v4 ∧ w.drew.cell? p5 = some v5 ∧ w.drew.cell? p6 = some v6 ∧ w.drew.cell? p7 = some v7 ∧ w.drew.cell? p8 = some v8 ∧ w.drew.cell? p9 = some v9 ∧ w.drew.cell? p10 = some v10 ∧ w.drew.cell? p11 = some v11 ∧ w.drew.cell? p12 = some v12 ∧ w.drew.cell? p13 = some v13 ∧ w.drew.cell? p14 = some v14 ∧ Kp W0 w.drew :=
  ⟨h.1, h.2.1, h.2.2.1, h.2.2.2.1, h.2.2.2.2.1, h.2.2.2.2.2.1, h.2.2.2.2.2.2.1, h.2.2.2.2.2.2.2.1, h.2.2.2.2.2.2.2.2.1, h.2.2.2.2.2.2.2.2.2.1, h.2.2.2.2.2.2.2.2.2.2.1, h.2.2.2.2.2.2.2.2.2.2.2.1, h.2.2.2.2.2.2.2.2.2.2.2.2.1, h.2.2.2.2.2.2.2.2.2.2.2.2.2.1, h.2.2.2.2.2.2.2.2.2.2.2.2.2.2.1, h.2.2.2.2.2.2.2.2.2.2.2.2.2.2.2.drew⟩
theorem keep27k {W0 w w1 : World} {p0 p1 p2 p3 p4 p5 p6 p7 p8 p9 p10 p11 p12 p13 p14 p15 p16 p17 p18 p19 p20 p21 p22 p23 p24 p25 p26 : Addr} {v0 v1 v2 v3 v4 v5 v6 v7 v8 v9 v10 v11 v12 v13 v14 v15 v16 v17 v18 v19 v20 v21 v22 v23 v24 v25 v26 : Value} (k : Kp w w1) (h : w.cell? p0 = some v0 ∧ w.cell? p1 = some v1 ∧ w.cell? p2 = some v2 ∧ w.cell? p3 = some v3 ∧ w.cell? p4 = some v4 ∧ w.cell? p5 = some v5 ∧ w.cell? p6 = some v6 ∧ w.cell? p7 = some v7 ∧ w.cell? p8 = some v8 ∧ w.cell? p9 = some v9 ∧ w.cell? p10 = some v10 ∧ w.cell? p11 = some v11 ∧ w.cell? p12 = some v12 ∧ w.cell? p13 = some v13 ∧ w.cell? p14 = some v14 ∧ w.cell? p15 = some v15 ∧ w.cell? p16 = some v16 ∧ w.cell? p17 = some v17 ∧ w.cell? p18 = some v18 ∧ w.cell? p19 = some v19 ∧ w.cell? p20 = some v20 ∧ w.cell? p21 = some v21 ∧ w.cell? p22 = some v22 ∧ w.cell? p23 = some v23 ∧ w.cell? p24 = some v24 ∧ w.cell? p25 = some v25 ∧ w.cell? p26 = some v26 ∧ Kp W0 w) : w1.cell? p0 = some v0 ∧ w1.cell? p1 = some v1 ∧ w1.cell? p2 = some v2 ∧ w1.cell? p3 = some v3 ∧ w1.cell? p4 = some v4 ∧ w1.cell? p5 = some v5 ∧ w1.cell? p6 = some v6 ∧ w1.cell? p7 = some v7 ∧ w1.cell? p8 = some v8 ∧ w1.cell? p9 = some v9 ∧ w1.cell? p10 = some v10 ∧ w1.cell? p11 = some v11 ∧ w1.cell? p12 = some v12 ∧ w1.cell? p13 = some v13 ∧ w1.cell? p14 = some v14 ∧ w1.cell? p15 = some v15 ∧ w1.cell? p16 = some v16 ∧ w1.cell? p17 = some v17 ∧ w1.cell? p18 = some v18 ∧ w1.cell? p19 = some v19 ∧ w1.cell? p20 = some v20 ∧ w1.cell? p21 = some v21 ∧ w1.cell? p22 = some v22 ∧ w1.cell? p23 = some v23 ∧ w1.cell? p24 = some v24 ∧ w1.cell? p25 = some v25 ∧ w1.cell? p26 = some v26 ∧ Kp W0 w1 :=
  ⟨k.cell h.1, k.cell h.2.1, k.cell h.2.2.1, k.cell h.2.2.2.1, k.cell h.2.2.2.2.1, k.cell h.2.2.2.2.2.1, k.cell h.2.2.2.2.2.2.1, k.cell h.2.2.2.2.2.2.2.1, k.cell h.2.2.2.2.2.2.2.2.1, k.cell h.2.2.2.2.2.2.2.2.2.1, k.cell h.2.2.2.2.2.2.2.2.2.2.1, k.cell h.2.2.2.2.2.2.2.2.2.2.2.1, k.cell h.2.2.2.2.2.2.2.2.2.2.2.2.1, k.cell h.2.2.2.2.2.2.2.2.2.2.2.2.2.1, k.cell h.2.2.2.2.2.2.2.2.2.2.2.2.2.2.1, k.cell h.2.2.2.2.2.2.2.2.2.2.2.2.2.2.2.1, k.cell h.2.2.2.2.2.2.2.2.2.2.2.2.2.2.2.2.1, k.cell h.2.2.2.2.2.2.2.2.2.2.2.2.2.2.2.2.2.1, k.cell h.2.2.2.2.2.2.2.2.2.2.2.2.2.2.2.2.2.2.1, k.cell h.2.2.2.2.2.2.2.2.2.2.2.2.2.2.2.2.2.2.2.1, k.cell h.2.2.2.2.2.2.2.2.2.2.2.2.2.2.2.2.2.2.2.2.1, k.cell h.2.2.2.2.2.2.2.2.2.2.2.2.2.2.2.2.2.2.2.2.2.1, k.cell h.2.2.2.2.2.2.2.2.2.2.2.2.2.2.2.2.2.2.2.2.2.2.1, k.cell h.2.2.2.2.2.2.2.2.2.2.2.2.2.2.2.2.2.2.2.2.2.2.2.1, k.cell h.2.2.2.2.2.2.2.2.2.2.2.2.2.2.2.2.2.2.2.2.2.2.2.2.1, k.cell h.2.2.2.2.2.2.2.2.2.2.2.2.2.2.2.2.2.2.2.2.2.2.2.2.2.1, k.cell h.2.2.2.2.2.2.2.2.2.2.2.2.2.2.2.2.2.2.2.2.2.2.2.2.2.2.1, h.2.2.2.2.2.2.2.2.2.2.2.2.2.2.2.2.2.2.2.2.2.2.2.2.2.2.2.trans k⟩
theorem drew27k {W0 w : World} {p0 p1 p2 p3 p4 p5 p6 p7 p8 p9 p10 p11 p12 p13 p14 p15 p16 p17 p18 p19 p20 p21 p22 p23 p24 p25 p26 : Addr} {v0 v1 v2 v3 v4 v5 v6 v7 v8 v9 v10 v11 v12 v13 v14 v15 v16 v17 v18 v19 v20 v21 v22 v23 v24 v25 v26 : Value} (h : w.cell? p0 = some v0 ∧ w.cell? p1 = some v1 ∧ w.cell? p2 = some v2 ∧ w.cell? p3 = some v3 ∧ w.cell? p4 = some v4 ∧ w.cell? p5 = some v5 ∧ w.cell? p6 = some v6 ∧ w.cell? p7 = some v7 ∧ w.cell? p8 = some v8 ∧ w.cell? p9 = some v9 ∧ w.cell? p10 = some v10 ∧ w.cell? p11 = some v11 ∧ w.cell? p12 = some v12 ∧ w.cell? p13 = some v13 ∧ w.cell? p14 = some v14 ∧ w.cell? p15 = some v15 ∧ w.cell? p16 = some v16 ∧ w.cell? p17 = some v17 ∧ w.cell? p18 = some v18 ∧ w.cell? p19 = some v19 ∧ w.cell? p20 = some v20 ∧ w.cell? p21 = some v21 ∧ w.cell? p22 = some v22 ∧ w.cell? p23 = some v23 ∧ w.cell? p24 = some v24 ∧ w.cell? p25 = some v25 ∧ w.cell? p26 = some v26 ∧ Kp W0 w) : w.drew.cell? p0 = some v0 ∧ w.drew.cell? p1 = some v1 ∧ w.drew.cell? p2 = some v2 ∧ w.drew.cell? p3 = some v3 ∧ w.drew.cell? p4 = some v4 ∧ w.drew.cell? p5 = some v5 ∧ w.drew.cell? p6 = some v6 ∧ w.drew.cell? p7 = some v7 ∧ w.drew.cell? p8 = some v8 ∧ w.drew.cell? p9 = some v9 ∧ w.drew.cell? p10 = some v10 ∧ w.drew.cell? p11 = some v11 ∧ w.drew.cell? p12 = some v12 ∧ w.drew.cell? p13 = some v13 ∧ w.drew.cell? p14 = some v14 ∧ w.drew.cell? p15 = some v15 ∧ w.drew.cell? p16 = some v16 ∧ w.drew.cell? p17 = some v17 ∧ w.drew.cell? p18 = some v18 ∧ w.drew.cell? p19 = some v19 ∧ w.drew.cell? p20 = some v20 ∧ w.drew.cell? p21 = some v21 ∧ w.drew.cell? p22 = some v22 ∧ w.drew.cell? p23 = some v23 ∧ w.drew.cell? p24 = some v24 ∧ w.drew.cell? p25 = some v25 ∧ w.drew.cell? p26 = some v26 ∧ Kp W0 w.drew :=
  ⟨h.1, h.2.1, h.2.2.1, h.2.2.2.1, h.2.2.2.2.1, h.2.2.2.2.2.1, h.2.2.2.2.2.2.1, h.2.2.2.2.2.2.2.1, h.2.2.2.2.2.2.2.2.1, h.2.2.2.2.2.2.2.2.2.1, h.2.2.2.2.2.2.2.2.2.2.1, h.2.2.2.2.2.2.2.2.2.2.2.1, h.2.2.2.2.2.2.2.2.2.2.2.2.1, h.2.2.2.2.2.2.2.2.2.2.2.2.2.1, h.2.2.2.2.2.2.2.2.2.2.2.2.2.2.1, h.2.2.2.2.2.2.2.2.2.2.2.2.2.2.2.1, h.2.2.2.2.2.2.2.2.2.2.2.2.2.2.2.2.1, h.2.2.2.2.2.2.2.2.2.2.2.2.2.2.2.2.2.1, h.2.2.2.2.2.2.2.2.2.2.2.2.2.2.2.2.2.2.1, h.2.2.2.2.2.2.2.2.2.2.2.2.2.2.2.2.2.2.2.1, h.2.2.2.2.2.2.2.2.2.2.2.2.2.2.2.2.2.2.2.2.1, h.2.2.2.2.2.2.2.2.2.2.2.2.2.2.2.2.2.2.2.2.2.1, h.2.2.2.2.2.2.2.2.2.2.2.2.2.2.2.2.2.2.2.2.2.2.1, h.2.2.2.2.2.2.2.2.2.2.2.2.2.2.2.2.2.2.2.2.2.2.2.1, h.2.2.2.2.2.2.2.2.2.2.2.2.2.2.2.2.2.2.2.2.2.2.2.2.1, h.2.2.2.2.2.2.2.2.2.2.2.2.2.2.2.2.2.2.2.2.2.2.2.2.2.1, h.2.2.2.2.2.2.2.2.2.2.2.2.2.2.2.2.2.2.2.2.2.2.2.2.2.2.1, h.2.2.2.2.2.2.2.2.2.2.2.2.2.2.2.2.2.2.2.2.2.2.2.2.2.2.2.drew⟩
theorem keep30k {W0 w w1 : World} {p0 p1 p2 p3 p4 p5 p6 p7 p8 p9 p10 p11 p12 p13 p14 p15 p16 p17 p18 p19 p20 p21 p22 p23 p24 p25 p26 p27 p28 p29 : Addr} {v0 v1 v2 v3 v4 v5 v6 v7 v8 v9 v10 v11 v12 v13 v14 v15 v16 v17 v18 v19 v20 v21 v22 v23 v24 v25 v26 v27 v28 v29 : Value} (k : Kp w w1) (h : w.cell? p0 = some v0 ∧ w.cell? p1 = some v1 ∧ w.cell? p2 = some v2 ∧ w.cell? p3 = some v3 ∧ w.cell? p4 = some v4 ∧ w.cell? p5 = some v5 ∧ w.cell? p6 = some v6 ∧ w.cell? p7 = some v7 ∧ w.cell? p8 = some v8 ∧ w.cell? p9 = some v9 ∧ w.cell? p10 = some v10 ∧ w.cell? p11 = some v11 ∧ w.cell? p12 = some v12 ∧ w.cell? p13 = some v13 ∧ w.cell? p14 = some v14 ∧ w.cell? p15 = some v15 ∧ w.cell? p16 = some v16 ∧ w.cell? p17 = some v17 ∧ w.cell? p18 = some v18 ∧ w.cell? p19 = some v19 ∧ w.cell? p20 = some v20 ∧ w.cell? p21 = some v21 ∧ w.cell? p22 = some v22 ∧ w.cell? p23 = some v23 ∧ w.cell? p24 = some v24 ∧ w.cell? p25 = some v25 ∧ w.cell? p26 = some v26 ∧ w.cell? p27 = some v27 ∧ w.cell? p28 = some v28 ∧ w.cell? p29 = some v29 ∧ Kp W0 w) : w1.cell? p0 = some v0 ∧ w1.cell? p1 = some v1 ∧ w1.cell? p2 = some v2 ∧ w1.cell? p3 = some v3 ∧ w1.cell? p4 = some v4 ∧ w1.cell? p5 = some v5 ∧ w1.cell? p6 = some v6 ∧ w1.cell? p7 = some v7 ∧ w1.cell? p8 = some v8 ∧ w1.cell? p9 = some v9 ∧ w1.cell? p10 = some v10 ∧ w1.cell? p11 = some v11 ∧ w1.cell? p12 = some v12 ∧ w1.cell? p13 = some v13 ∧ w1.cell? p14 = some v14 ∧ w1.cell? p15 = some v15 ∧ w1.cell? p16 = some v16 ∧ w1.cell? p17 = some v17 ∧ w1.cell? p18 = some v18 ∧ w1.cell? p19 = some v19 ∧ w1.cell? p20 = some v20 ∧ w1.cell? p21 = some v21 ∧ w1.cell? p22 = some v22 ∧ w1.cell? p23 = some v23 ∧ w1.cell? p24 = some v24 ∧ w1.cell? p25 = some v25 ∧ w1.cell? p26 = some v26 ∧ w1.cell? p27 = some v27 ∧ w1.cell? p28 = some v28 ∧ w1.cell? p29 = some v29 ∧ Kp W0 w1 :=
  ⟨k.cell h.1, k.cell h.2.1, k.cell h.2.2.1, k.cell h.2.2.2.1, k.cell h.2.2.2.2.1, k.cell h.2.2.2.2.2.1, k.cell h.2.2.2.2.2.2.1, k.cell h.2.2.2.2.2.2.2.1, k.cell h.2.2.2.2.2.2.2.2.1, k.cell h.2.2.2.2.2.2.2.2.2.1, k.cell h.2.2.2.2.2.2.2.2.2.2.1, k.cell h.2.2.2.2.2.2.2.2.2.2.2.1, k.cell h.2.2.2.2.2.2.2.2.2.2.2.2.1, k.cell h.2.2.2.2.2.2.2.2.2.2.2.2.2.1, k.cell h.2.2.2.2.2.2.2.2.2.2.2.2.2.2.1, k.cell h.2.2.2.2.2.2.2.2.2.2.2.2.2.2.2.1, k.cell h.2.2.2.2.2.2.2.2.2.2.2.2.2.2.2.2.1, k.cell h.2.2.2.2.2.2.2.2.2.2.2.2.2.2.2.2.2.1, k.cell h.2.2.2.2.2.2.2.2.2.2.2.2.2.2.2.2.2.2.1, k.cell h.2.2.2.2.2.2.2.2.2.2.2.2.2.2.2.2.2.2.2.1, k.cell h.2.2.2.2.2.2.2.2.2.2.2.2.2.2.2.2.2.2.2.2.1, k.cell h.2.2.2.2.2.2.2.2.2.2.2.2.2.2.2.2.2.2.2.2.2.1, k.cell h.2.2.2.2.2.2.2.2.2.2.2.2.2.2.2.2.2.2.2.2.2.2.1, k.cell h.2.2.2.2.2.2.2.2.2.2.2.2.2.2.2.2.2.2.2.2.2.2.2.1, k.cell h.2.2.2.2.2.2.2.2.2.2.2.2.2.2.2.2.2.2.2.2.2.2.2.2.1, k.cell h.2.2.2.2.2.2.2.2.2.2.2.2.2.2.2.2.2.2.2.2.2.2.2.2.2.1, k.cell h.2.2.2.2.2.2.2.2.2.2.2.2.2.2.2.2.2.2.2.2.2.2.2.2.2.2.1, k.cell h.2.2.2.2.2.2.2.2.2.2.2.2.2.2.2.2.2.2.2.2.2.2.2.2.2.2.2.1, k.cell h.2.2.2.2.2.2.2.2.2.2.2.2.2.2.2.2.2.2.2.2.2.2.2.2.2.2.2.2.1, k.cell h.2.2.2.2.2.2.2.2.2.2.2.2.2.2.2.2.2.2.2.2.2.2.2.2.2.2.2.2.2.1, h.2.2.2.2.2.2.2.2.2.2.2.2.2.2.2.2.2.2.2.2.2.2.2.2.2.2.2.2.2.2.trans k⟩
theorem drew30k {W0 w : World} {p0 p1 p2 p3 p4 p5 p6 p7 p8 p9 p10 p11 p12 p13 p14 p15 p16 p17 p18 p19 p20 p21 p22 p23 p24 p25 p26 p27 p28 p29 : Addr} {v0 v1 v2 v3 v4 v5 v6 v7 v8 v9 v10 v11 v12 v13 v14 v15 v16 v17 v18 v19 v20 v21 v22 v23 v24 v25 v26 v27 v28 v29 : Value} (h : w.cell? p0 = some v0 ∧ w.cell? p1 = some v1 ∧ w.cell? p2 = some v2 ∧ w.cell? p3 = some v3 ∧ w.cell? p4 = some v4 ∧ w.cell? p5 = some v5 ∧ w.cell? p6 = some v6 ∧ w.cell? p7 = some v7 ∧ w.cell? p8 = some v8 ∧ w.cell? p9 = some v9 ∧ w.cell? p10 = some v10 ∧ w.cell? p11 = some v11 ∧ w.cell? p12 = some v12 ∧ w.cell? p13 = some v13 ∧ w.cell? p14 = some v14 ∧ w.cell? p15 = some v15 ∧ w.cell? p16 = some v16 ∧ w.cell? p17 = some v17 ∧ w.cell? p18 = some v18 ∧ w.cell? p19 = some v19 ∧ w.cell? p20 = some v20 ∧ w.cell? p21 = some v21 ∧ w.cell? p22 = some v22 ∧ w.cell? p23 = some v23 ∧ w.cell? p24 = some v24 ∧ w.cell? p25 = some v25 ∧ w.cell? p26 = some v26 ∧ w.cell? p27 = some v27 ∧ w.cell? p28 = some v28 ∧ w.cell? p29 = some v29 ∧ Kp W0 w) : w.drew.cell? p0 = some v0 ∧ w.drew.cell? p1 = some v1 ∧ w.drew.cell? p2 = some v2 ∧ w.drew.cell? p3 = some v3 ∧ w.drew.cell? p4 = some v4 ∧ w.drew.cell? p5 = some v5 ∧ w.drew.cell? p6 = some v6 ∧ w.drew.cell? p7 = some v7 ∧ w.drew.cell? p8 = some v8 ∧ w.drew.cell? p9 = some v9 ∧ w.drew.cell? p10 = some v10 ∧ w.drew.cell? p11 = some v11 ∧ w.drew.cell? p12 = some v12 ∧ w.drew.cell? p13 = some v13 ∧ w.drew.cell? p14 = some v14 ∧ w.drew.cell? p15 = some v15 ∧ w.drew.cell? p16 = some v16 ∧ w.drew.cell? p17 = some v17 ∧ w.drew.cell? p18 = some v18 ∧ w.drew.cell? p19 = some v19 ∧ w.drew.cell? p20 = some v20 ∧ w.drew.cell? p21 = some v21 ∧ w.drew.cell? p22 = some v22 ∧ w.drew.cell? p23 = some v23 ∧ w.drew.cell? p24 = some v24 ∧ w.drew.cell? p25 = some v25 ∧ w.drew.cell? p26 = some v26 ∧ w.drew.cell? p27 = some v27 ∧ w.drew.cell? p28 = some v28 ∧ w.drew.cell? p29 = some v29 ∧ Kp W0 w.drew :=
  ⟨h.1, h.2.1, h.2.2.1, h.2.2.2.1, h.2.2.2.2.1, h.2.2.2.2.2.1, h.2.2.2.2.2.2.1, h.2.2.2.2.2.2.2.1, h.2.2.2.2.2.2.2.2.1, h.2.2.2.2.2.2.2.2.2.1, h.2.2.2.2.2.2.2.2.2.2.1, h.2.2.2.2.2.2.2.2.2.2.2.1, h.2.2.2.2.2.2.2.2.2.2.2.2.1, h.2.2.2.2.2.2.2.2.2.2.2.2.2.1, h.2.2.2.2.2.2.2.2.2.2.2.2.2.2.1, h.2.2.2.2.2.2.2.2.2.2.2.2.2.2.2.1, h.2.2.2.2.2.2.2.2.2.2.2.2.2.2.2.2.1, h.2.2.2.2.2.2.2.2.2.2.2.2.2.2.2.2.2.1, h.2.2.2.2.2.2.2.2.2.2.2.2.2.2.2.2.2.2.1, h.2.2.2.2.2.2.2.2.2.2.2.2.2.2.2.2.2.2.2.1, h.2.2.2.2.2.2.2.2.2.2.2.2.2.2.2.2.2.2.2.2.1, h.2.2.2.2.2.2.2.2.2.2.2.2.2.2.2.2.2.2.2.2.2.1, h.2.2.2.2.2.2.2.2.2.2.2.2.2.2.2.2.2.2.2.2.2.2.1, h.2.2.2.2.2.2.2.2.2.2.2.2.2.2.2.2.2.2.2.2.2.2.2.1, h.2.2.2.2.2.2.2.2.2.2.2.2.2.2.2.2.2.2.2.2.2.2.2.2.1, h.2.2.2.2.2.2.2.2.2.2.2.2.2.2.2.2.2.2.2.2.2.2.2.2.2.1, h.2.2.2.2.2.2.2.2.2.2.2.2.2.2.2.2.2.2.2.2.2.2.2.2.2.2.1, h.2.2.2.2.2.2.2.2.2.2.2.2.2.2.2.2.2.2.2.2.2.2.2.2.2.2.2.1, h.2.2.2.2.2.2.2.2.2.2.2.2.2.2.2.2.2.2.2.2.2.2.2.2.2.2.2.2.1, h.2.2.2.2.2.2.2.2.2.2.2.2.2.2.2.2.2.2.2.2.2.2.2.2.2.2.2.2.2.1, h.2.2.2.2.2.2.2.2.2.2.2.2.2.2.2.2.2.2.2.2.2.2.2.2.2.2.2.2.2.2.drew⟩
theorem liv_new {w : World} {p : Addr} {v : Value} {Q : Prop} (_h : w.cell? p = some v ∧ Q) : LivS (w.alloc (.cells #[.int .i64 0, .int .i64 0, .slice none 0 0] 48)) w.heap.size (.int .i64 0) (.int .i64 0) (.slice none 0 0) ∧ Kp w (w.alloc (.cells #[.int .i64 0, .int .i64 0, .slice none 0 0] 48)) := ⟨⟨by simp [go_sem], by simp [go_sem], by simp [go_sem]⟩, (Kp.refl w).alloc _⟩
set_option maxRecDepth 100000 in
set_option maxHeartbeats 16000000 in
theorem walk (At Ak : Option Addr) (nt nk ct ck : Nat) (l : List Ter) (m : List Knd) (a b c d e W H : Int) (x r y : Value) (lt lr ld : List Int) (T Z : Int) (u : Value) (us : List Uni) (un : Int) (i : Int) (w : World) (h0 : Spans w) (h1 : Tab w) (h2 : SpU w) (h3 : LossAt w) (hr : BrdIn w At Ak nt nk l m x r y lt lr ld) (hr2 : StaIn w u us) (_hun : isI64 un) (_hi : isI64 i) :
    Calls Tryz.prog 6 #[bv (.slice At nt ct) (.slice Ak nk ck) a b c d e W H x r y, sv T Z u, .int .i64 un, .int .i64 i] w fun e' w' => e' = .returned (.bool true) ∧ Kp w w' := by
  have HR := Lib.hid hr
  have HU := Lib.hid hr2
  have HS0 := Lib.hid h0
  have HS1 := Lib.hid h1
  have HS2 := Lib.hid h2
  have HS3 := Lib.hid h3
  obtain ⟨mt, e1⟩ : ∃ n, lt.length = n := ⟨_, rfl⟩
  obtain ⟨mr, e2⟩ : ∃ n, lr.length = n := ⟨_, rfl⟩
  obtain ⟨md, e3⟩ : ∃ n, ld.length = n := ⟨_, rfl⟩
  have HE1 := Lib.hid e1
  have HE2 := Lib.hid e2
  have HE3 := Lib.hid e3
  clear e1 e2 e3
  obtain ⟨mu, e4⟩ : ∃ n, us.length = n := ⟨_, rfl⟩
  have HE4 := Lib.hid e4
  clear e4
  obtain ⟨B, hB⟩ : ∃ z, z = (((brdOk ⟨l, m, a, b, c, d, e⟩ W H lt lr ld && staOk ⟨l, m, a, b, c, d, e⟩ W H lt T Z us) && inB un us.length) && spB 0 4 i) := ⟨_, rfl⟩
  obtain ⟨LL, hLL⟩ : ∃ z, z = (if (((brdOk ⟨l, m, a, b, c, d, e⟩ W H lt lr ld && staOk ⟨l, m, a, b, c, d, e⟩ W H lt T Z us) && inB un us.length) && spB 0 4 i) = true then loL us un.toNat i else []) := ⟨_, rfl⟩
  obtain ⟨X, hX⟩ : ∃ z, z = vI (((brdOk ⟨l, m, a, b, c, d, e⟩ W H lt lr ld && staOk ⟨l, m, a, b, c, d, e⟩ W H lt T Z us) && inB un us.length) && spB 0 4 i) T := ⟨_, rfl⟩
  obtain ⟨Y, hY⟩ : ∃ z, z = vI (((brdOk ⟨l, m, a, b, c, d, e⟩ W H lt lr ld && staOk ⟨l, m, a, b, c, d, e⟩ W H lt T Z us) && inB un us.length) && spB 0 4 i) Z := ⟨_, rfl⟩
  obtain ⟨nL, hnL⟩ : ∃ z, LL.length = z := ⟨_, rfl⟩
  have HNL := Lib.hid hnL
  have CS : Hid (∀ (At Ak : Option Addr) (ct ck : Nat) (x r y : Value) (gS oS cS : Nat) (w : World), BrdAt w At Ak nt nk l m x r y lt lr ld → StaAt w (.slice (some ⟨gS, oS, none⟩) mu cS) us → Calls Tryz.prog 26 #[bv (.slice At nt ct) (.slice Ak nk ck) a b c d e W H x r y, sv T Z (.slice (some ⟨gS, oS, none⟩) mu cS), .int .i64 un, .int .i64 i] w fun e' w' => ∃ (A : Option Addr) (c : Nat), e' = .returned (.tuple #[sv X Y (.slice A nL c), .bool B]) ∧ OwnU w' w.heap.size (.slice A nL c) LL ∧ Kp w w') := Lib.hid fun At Ak ct ck x r y gS oS cS w hb hu => by
    refine (specLoseSteps_any At Ak nt nk ct ck l m a b c d e W H x r y lt lr ld T Z gS oS mu cS us un i w hb hu HE4.out).mono ?_
    rintro e' w' ⟨v, he, ho, hk⟩
    rw [← hLL] at ho
    obtain ⟨A1, c1, hv⟩ := ho.slice
    rw [hnL] at hv
    subst hv
    exact ⟨A1, c1, by rw [he, ← hX, ← hY, ← hB], ho, hk⟩
  have CI : Hid (∀ (At Ak : Option Addr) (ct ck : Nat) (x r y : Value) (gS oS cS : Nat) (w : World), BrdAt w At Ak nt nk l m x r y lt lr ld → StaAt w (.slice (some ⟨gS, oS, none⟩) mu cS) us → Spans w → Tab w → SpU w → LossAt w → Calls Tryz.prog 27 #[bv (.slice At nt ct) (.slice Ak nk ck) a b c d e W H x r y, sv T Z (.slice (some ⟨gS, oS, none⟩) mu cS), .int .i64 un, .int .i64 i] w fun e' w' => ∃ (A : Option Addr) (c : Nat), e' = .returned (.tuple #[sv X Y (.slice A nL c), .bool B]) ∧ OwnU w' w.heap.size (.slice A nL c) LL ∧ Kp w w') := Lib.hid fun At Ak ct ck x r y gS oS cS w hb hu h0 h1 h2 h3 => by
    refine (loseStepsP_any At Ak nt nk ct ck l m a b c d e W H x r y lt lr ld T Z gS oS mu cS us un i w h0 h1 h2 h3 hb hu HE4.out).mono ?_
    rintro e' w' ⟨v, he, ho, hk⟩
    rw [← hLL] at ho
    obtain ⟨A1, c1, hv⟩ := ho.slice
    rw [hnL] at hv
    subst hv
    exact ⟨A1, c1, by rw [he, ← hX, ← hY, ← hB], ho, hk⟩
  have HLe : Hid (nL ≤ mu) := Lib.hid (by
    rw [← hnL, hLL, ← HE4.out]
    split
    · rw [loL_len]; exact Nat.le_refl _
    · simp)
  have HIL : Hid (∀ x ∈ LL, UniI x) := Lib.hid (by
    rw [hLL]
    split
    · exact (by rename_i h9; simp only [Bool.and_eq_true] at h9; exact UniI.lose hr2.i (by simpa [spB] using h9.2) fun x9 hx9 => (uniOk_side ((staOk_parts h9.1.1.2).2.2.1 x9 hx9)).2.2.1.1)
    · intro x9 hx9; simp at hx9)
  have eB : (B != B) = false := by simp
  clear hr hr2 h0 h1 h2 h3 hB hX hY hLL hnL
  have s0 : ((w.alloc (.cells #[.slice At nt ct, .slice Ak nk ck, .int .i64 a, .int .i64 b, .int .i64 c, .int .i64 d, .int .i64 e, .int .i64 W, .int .i64 H, x, r, y] 30)).alloc (.cells #[.int .i64 T, .int .i64 Z, u] 33)).cell? ⟨w.heap.size, 0, none⟩ = some (.slice At nt ct) ∧ ((w.alloc (.cells #[.slice At nt ct, .slice Ak nk ck, .int .i64 a, .int .i64 b, .int .i64 c, .int .i64 d, .int .i64 e, .int .i64 W, .int .i64 H, x, r, y] 30)).alloc (.cells #[.int .i64 T, .int .i64 Z, u] 33)).cell? ⟨w.heap.size, 1, none⟩ = some (.slice Ak nk ck) ∧ ((w.alloc (.cells #[.slice At nt ct, .slice Ak nk ck, .int .i64 a, .int .i64 b, .int .i64 c, .int .i64 d, .int .i64 e, .int .i64 W, .int .i64 H, x, r, y] 30)).alloc (.cells #[.int .i64 T, .int .i64 Z, u] 33)).cell? ⟨w.heap.size, 2, none⟩ = some (.int .i64 a) ∧ ((w.alloc (.cells #[.slice At nt ct, .slice Ak nk ck, .int .i64 a, .int .i64 b, .int .i64 c, .int .i64 d, .int .i64 e, .int .i64 W, .int .i64 H, x, r, y] 30)).alloc (.cells #[.int .i64 T, .int .i64 Z, u] 33)).cell? ⟨w.heap.size, 3, none⟩ = some (.int .i64 b) ∧ ((w.alloc (.cells #[.slice At nt ct, .slice Ak nk ck, .int .i64 a, .int .i64 b, .int .i64 c, .int .i64 d, .int .i64 e, .int .i64 W, .int .i64 H, x, r, y] 30)).alloc (.cells #[.int .i64 T, .int .i64 Z, u] 33)).cell? ⟨w.heap.size, 4, none⟩ = some (.int .i64 c) ∧ ((w.alloc (.cells #[.slice At nt ct, .slice Ak nk ck, .int .i64 a, .int .i64 b, .int .i64 c, .int .i64 d, .int .i64 e, .int .i64 W, .int .i64 H, x, r, y] 30)).alloc (.cells #[.int .i64 T, .int .i64 Z, u] 33)).cell? ⟨w.heap.size, 5, none⟩ = some (.int .i64 d) ∧ ((w.alloc (.cells #[.slice At nt ct, .slice Ak nk ck, .int .i64 a, .int .i64 b, .int .i64 c, .int .i64 d, .int .i64 e, .int .i64 W, .int .i64 H, x, r, y] 30)).alloc (.cells #[.int .i64 T, .int .i64 Z, u] 33)).cell? ⟨w.heap.size, 6, none⟩ = some (.int .i64 e) ∧ ((w.alloc (.cells #[.slice At nt ct, .slice Ak nk ck, .int .i64 a, .int .i64 b, .int .i64 c, .int .i64 d, .int .i64 e, .int .i64 W, .int .i64 H, x, r, y] 30)).alloc (.cells #[.int .i64 T, .int .i64 Z, u] 33)).cell? ⟨w.heap.size, 7, none⟩ = some (.int .i64 W) ∧ ((w.alloc (.cells #[.slice At nt ct, .slice Ak nk ck, .int .i64 a, .int .i64 b, .int .i64 c, .int .i64 d, .int .i64 e, .int .i64 W, .int .i64 H, x, r, y] 30)).alloc (.cells #[.int .i64 T, .int .i64 Z, u] 33)).cell? ⟨w.heap.size, 8, none⟩ = some (.int .i64 H) ∧ ((w.alloc (.cells #[.slice At nt ct, .slice Ak nk ck, .int .i64 a, .int .i64 b, .int .i64 c, .int .i64 d, .int .i64 e, .int .i64 W, .int .i64 H, x, r, y] 30)).alloc (.cells #[.int .i64 T, .int .i64 Z, u] 33)).cell? ⟨w.heap.size, 9, none⟩ = some (x) ∧ ((w.alloc (.cells #[.slice At nt ct, .slice Ak nk ck, .int .i64 a, .int .i64 b, .int .i64 c, .int .i64 d, .int .i64 e, .int .i64 W, .int .i64 H, x, r, y] 30)).alloc (.cells #[.int .i64 T, .int .i64 Z, u] 33)).cell? ⟨w.heap.size, 10, none⟩ = some (r) ∧ ((w.alloc (.cells #[.slice At nt ct, .slice Ak nk ck, .int .i64 a, .int .i64 b, .int .i64 c, .int .i64 d, .int .i64 e, .int .i64 W, .int .i64 H, x, r, y] 30)).alloc (.cells #[.int .i64 T, .int .i64 Z, u] 33)).cell? ⟨w.heap.size, 11, none⟩ = some (y) ∧ ((w.alloc (.cells #[.slice At nt ct, .slice Ak nk ck, .int .i64 a, .int .i64 b, .int .i64 c, .int .i64 d, .int .i64 e, .int .i64 W, .int .i64 H, x, r, y] 30)).alloc (.cells #[.int .i64 T, .int .i64 Z, u] 33)).cell? ⟨w.heap.size + 1, 0, none⟩ = some (.int .i64 T) ∧ ((w.alloc (.cells #[.slice At nt ct, .slice Ak nk ck, .int .i64 a, .int .i64 b, .int .i64 c, .int .i64 d, .int .i64 e, .int .i64 W, .int .i64 H, x, r, y] 30)).alloc (.cells #[.int .i64 T, .int .i64 Z, u] 33)).cell? ⟨w.heap.size + 1, 1, none⟩ = some (.int .i64 Z) ∧ ((w.alloc (.cells #[.slice At nt ct, .slice Ak nk ck, .int .i64 a, .int .i64 b, .int .i64 c, .int .i64 d, .int .i64 e, .int .i64 W, .int .i64 H, x, r, y] 30)).alloc (.cells #[.int .i64 T, .int .i64 Z, u] 33)).cell? ⟨w.heap.size + 1, 2, none⟩ = some (u) ∧ Kp w ((w.alloc (.cells #[.slice At nt ct, .slice Ak nk ck, .int .i64 a, .int .i64 b, .int .i64 c, .int .i64 d, .int .i64 e, .int .i64 W, .int .i64 H, x, r, y] 30)).alloc (.cells #[.int .i64 T, .int .i64 Z, u] 33)) := ⟨by simp [go_sem], by simp [go_sem], by simp [go_sem], by simp [go_sem], by simp [go_sem], by simp [go_sem], by simp [go_sem], by simp [go_sem], by simp [go_sem], by simp [go_sem], by simp [go_sem], by simp [go_sem], by simp [go_sem], by simp [go_sem], by simp [go_sem], ((Kp.refl w).alloc _).alloc _⟩
  go_enter Tryz.func6, Tryz.ntmps6
  go_wp2_with fail
  refine (szBoard_any _ _ _ _ _ _ l m _ _ _ _ _ _ _ _ _ _ lt lr ld _ _ (HR.out.keep s0.2.2.2.2.2.2.2.2.2.2.2.2.2.2.2) (by omega) (by omega)).mono ?_
  rintro e1 w1 ⟨r1, rfl, u1, u2, u3, k1⟩
  have s1 := keep15k k1 s0
  have U3 := Lib.hid u3
  clear s0 k1 u3
  by_cases hneg : r1 < 0
  · go_wp2_with fail
    go_ret
    exact ⟨rfl, s1.2.2.2.2.2.2.2.2.2.2.2.2.2.2.2⟩
  have SM := Lib.hid (U3.out (by omega))
  have RA := Lib.hid (HR.out.at SM.out)
  clear U3
  go_wp2_with fail
  refine (szState_any _ _ _ us _ _ (HU.out.keep s1.2.2.2.2.2.2.2.2.2.2.2.2.2.2.2) (by omega) u1).mono ?_
  rintro e2 w2 ⟨r2, rfl, v1, v2, v3, k2⟩
  have s2 := keep15k k2 s1
  have V3 := Lib.hid v3
  clear s1 k2 v3
  by_cases hneg2 : r2 < 0
  · go_wp2_with fail
    go_ret
    exact ⟨rfl, s2.2.2.2.2.2.2.2.2.2.2.2.2.2.2.2⟩
  have SU := Lib.hid (V3.out (by omega))
  have LA := Lib.hid (HU.out.at SU.out)
  have hmu : mu ≤ 1048576 := by rw [← HE4.out]; exact SU.out
  clear V3
  go_upto_region 8 with (fail)
  have s2d := drew15k s2
  have hn6 : nL ≤ 1048576 := Nat.le_trans HLe.out hmu
  go_cut [10, 11] (fun s10 s11 wx => ∃ (B0 : Nat) (A0 : Option Addr) (c0 : Nat), s10 = .pointer (some ⟨B0, 0, none⟩) ∧ s11 = .bool B ∧ LivS wx B0 (.int .i64 X) (.int .i64 Y) (.slice A0 nL c0) ∧ StaAt wx (.slice A0 nL c0) LL ∧ wx.cell? ⟨w.heap.size, 0, none⟩ = some (.slice At nt ct) ∧ wx.cell? ⟨w.heap.size, 1, none⟩ = some (.slice Ak nk ck) ∧ wx.cell? ⟨w.heap.size, 2, none⟩ = some (.int .i64 a) ∧ wx.cell? ⟨w.heap.size, 3, none⟩ = some (.int .i64 b) ∧ wx.cell? ⟨w.heap.size, 4, none⟩ = some (.int .i64 c) ∧ wx.cell? ⟨w.heap.size, 5, none⟩ = some (.int .i64 d) ∧ wx.cell? ⟨w.heap.size, 6, none⟩ = some (.int .i64 e) ∧ wx.cell? ⟨w.heap.size, 7, none⟩ = some (.int .i64 W) ∧ wx.cell? ⟨w.heap.size, 8, none⟩ = some (.int .i64 H) ∧ wx.cell? ⟨w.heap.size, 9, none⟩ = some (x) ∧ wx.cell? ⟨w.heap.size, 10, none⟩ = some (r) ∧ wx.cell? ⟨w.heap.size, 11, none⟩ = some (y) ∧ wx.cell? ⟨w.heap.size + 1, 0, none⟩ = some (.int .i64 T) ∧ wx.cell? ⟨w.heap.size + 1, 1, none⟩ = some (.int .i64 Z) ∧ wx.cell? ⟨w.heap.size + 1, 2, none⟩ = some (u) ∧ Kp w wx)
  case first =>
    refine wp_region_held_drew (S := (fun w' => w'.cell? ⟨w.heap.size, 0, none⟩ = some (.slice At nt ct) ∧ w'.cell? ⟨w.heap.size, 1, none⟩ = some (.slice Ak nk ck) ∧ w'.cell? ⟨w.heap.size, 2, none⟩ = some (.int .i64 a) ∧ w'.cell? ⟨w.heap.size, 3, none⟩ = some (.int .i64 b) ∧ w'.cell? ⟨w.heap.size, 4, none⟩ = some (.int .i64 c) ∧ w'.cell? ⟨w.heap.size, 5, none⟩ = some (.int .i64 d) ∧ w'.cell? ⟨w.heap.size, 6, none⟩ = some (.int .i64 e) ∧ w'.cell? ⟨w.heap.size, 7, none⟩ = some (.int .i64 W) ∧ w'.cell? ⟨w.heap.size, 8, none⟩ = some (.int .i64 H) ∧ w'.cell? ⟨w.heap.size, 9, none⟩ = some (x) ∧ w'.cell? ⟨w.heap.size, 10, none⟩ = some (r) ∧ w'.cell? ⟨w.heap.size, 11, none⟩ = some (y) ∧ w'.cell? ⟨w.heap.size + 1, 0, none⟩ = some (.int .i64 T) ∧ w'.cell? ⟨w.heap.size + 1, 1, none⟩ = some (.int .i64 Z) ∧ w'.cell? ⟨w.heap.size + 1, 2, none⟩ = some (u) ∧ Kp w w')) (by kernel_rfl) ?_ (fun hHeld => ?_)
    · assumption
    generalize w2.drew = V at *
    refine wpAnyH_take (i := 0) (oi := ⟨some 32, _, _, _, _, _⟩) (v := ?_) rfl (by kernel_rfl) (by kernel_rfl) (by kernel_rfl) (fun _ _ _ h => h) (Or.inl ⟨by rfl, ?_⟩) (by assumption) ?_
    rotate_left
    · intro w hSw; (try dsimp only at hSw); go_simp; (all_goals with_reducible rfl)
    simp only [Act.put, List.setIfInBounds_toArray, List.set_cons_zero, List.set_cons_succ]
    refine wpAnyH_take (i := 2) (oi := ⟨some 34, _, _, _, _, _⟩) (v := ?_) rfl (by kernel_rfl) (by kernel_rfl) (by kernel_rfl) (fun _ _ _ h => h) (Or.inl ⟨by rfl, ?_⟩) (by assumption) ?_
    rotate_left
    · intro w hSw; (try dsimp only at hSw); go_simp; (all_goals with_reducible rfl)
    simp only [Act.put, List.setIfInBounds_toArray, List.set_cons_zero, List.set_cons_succ]
    refine wpAnyH_take (i := 4) (oi := ⟨some 36, _, _, _, _, _⟩) (v := ?_) rfl (by kernel_rfl) (by kernel_rfl) (by kernel_rfl) (fun _ _ _ h => h) (Or.inl ⟨by rfl, ?_⟩) (by assumption) ?_
    rotate_left
    · intro w hSw; (try dsimp only at hSw); go_simp; (all_goals with_reducible rfl)
    simp only [Act.put, List.setIfInBounds_toArray, List.set_cons_zero, List.set_cons_succ]
    refine wpAnyH_take (i := 5) (oi := ⟨some 37, _, _, _, _, _⟩) (v := ?_) rfl (by kernel_rfl) (by kernel_rfl) (by kernel_rfl) (fun _ _ _ h => h) (Or.inl ⟨by rfl, ?_⟩) (by assumption) ?_
    rotate_left
    · intro w hSw; (try dsimp only at hSw); go_simp; (all_goals with_reducible rfl)
    simp only [Act.put, List.setIfInBounds_toArray, List.set_cons_zero, List.set_cons_succ]
    refine wpAnyH_ready (rs := [1, 10]) (by kernel_rfl) (by simp) ?_
    refine (AllReadyH.cons (o := ⟨some 33, _, _, _, _, _⟩) rfl (fun K hK => ?_) (AllReadyH.cons (o := ⟨some 10, _, _, _, _, _⟩) rfl (fun K hK => ?_) AllReadyH.nil))
    · go_simp
      refine (toBoard_any _ _ _ _ _ _ l m _ _ _ _ _ _ _ _ _ _ lt lr ld mt mr md _ (RA.out.keep hHeld.2.2.2.2.2.2.2.2.2.2.2.2.2.2.2) HE1.out HE2.out HE3.out).mono ?_
      rintro e3 w3 ⟨g1a, g2a, csa, ysa, zsa, A1a, c1a, A2a, c2a, A3a, c3a, rfl, o3, k3⟩
      have hS3 := keep15k k3 hHeld
      have R3 := Lib.hid (o3.at RA.out)
      try (have L10 := livS_keep k3 L10)
      go_wp2_with fail
      refine hK.out _ _ ?_ (fun hHeld => ?_)
      · (try dsimp only); (assumption)
      clear hK K
      try simp only [Act.put, List.setIfInBounds_toArray, List.set_cons_zero, List.set_cons_succ]
      refine wpAnyH_ready (rs := [3, 10]) (by kernel_rfl) (by simp) ?_
      refine (AllReadyH.cons (o := ⟨some 35, _, _, _, _, _⟩) rfl (fun K hK => ?_) (AllReadyH.cons (o := ⟨some 10, _, _, _, _, _⟩) rfl (fun K hK => ?_) AllReadyH.nil))
      · go_simp
        refine (toState_any T Z _ us mu _ (LA.out.keep hHeld.2.2.2.2.2.2.2.2.2.2.2.2.2.2.2) HE4.out).mono ?_
        rintro e3' w3' ⟨gua, rfl, o3', k3'⟩
        have hS3' := keep15k k3' hHeld
        have B3 := Lib.hid (R3.out.keep k3')
        have S3 := Lib.hid (o3'.sta LA.out)
        try (have L10 := livS_keep k3' L10)
        go_wp2_with fail
        refine hK.out _ _ ?_ (fun hHeld => ?_)
        · (try dsimp only); (assumption)
        clear hK K
        try simp only [Act.put, List.setIfInBounds_toArray, List.set_cons_zero, List.set_cons_succ]
        refine wpAnyH_ready (rs := [6, 10]) (by kernel_rfl) (by simp) ?_
        refine (AllReadyH.cons (o := ⟨some 38, _, _, _, _, _⟩) rfl (fun K hK => ?_) (AllReadyH.cons (o := ⟨some 10, _, _, _, _, _⟩) rfl (fun K hK => ?_) AllReadyH.nil))
        · go_simp
          try (have hzB := cell_lt L10.1.1)
          refine (CS.out _ _ _ _ _ _ _ _ _ _ _ B3.out S3.out).mono ?_
          rintro e4 w4 ⟨A0, c0, rfl, o4, k4⟩
          have hS4 := keep15k k4 hHeld
          have W3 := Lib.hid o4
          have W3o := Lib.hid o4
          try (have NB := Lib.hid (o4.not hzB))
          try (have L10 := livS_keep k4 L10)
          go_wp2_with fail
          refine hK.out _ _ ?_ (fun hHeld => ?_)
          · (try dsimp only); (assumption)
          clear hK K
          try simp only [Act.put, List.setIfInBounds_toArray, List.set_cons_zero, List.set_cons_succ]
          refine wpAnyH_take (i := 7) (oi := ⟨some 31, _, _, _, _, _⟩) (v := ?_) rfl (by kernel_rfl) (by kernel_rfl) (by kernel_rfl) (fun _ _ _ h => h) (Or.inl ⟨by rfl, ?_⟩) (by assumption) ?_
          rotate_left
          · intro w hSw; (try dsimp only at hSw); go_simp; (all_goals with_reducible rfl)
          simp only [Act.put, List.setIfInBounds_toArray, List.set_cons_zero, List.set_cons_succ]
          refine wpAnyH_take (i := 8) (oi := ⟨some 39, _, _, _, _, _⟩) (v := ?_) rfl (by kernel_rfl) (by kernel_rfl) (by kernel_rfl) (fun _ _ _ h => h) (Or.inl ⟨by rfl, ?_⟩) (by assumption) ?_
          rotate_left
          · intro w hSw; (try dsimp only at hSw); go_simp; (all_goals with_reducible rfl)
          simp only [Act.put, List.setIfInBounds_toArray, List.set_cons_zero, List.set_cons_succ]
          refine wpAnyH_take (i := 9) (oi := ⟨some 40, _, _, _, _, _⟩) (v := ?_) rfl (by kernel_rfl) (by kernel_rfl) (by kernel_rfl) (fun _ _ _ h => h) (Or.inl ⟨by rfl, ?_⟩) (by assumption) ?_
          rotate_left
          · intro w hSw; (try dsimp only at hSw); go_simp; (all_goals with_reducible rfl)
          simp only [Act.put, List.setIfInBounds_toArray, List.set_cons_zero, List.set_cons_succ]
          refine wpAnyH_ready (rs := [10]) (by kernel_rfl) (by simp) ?_
          refine (AllReadyH.cons (o := ⟨some 10, _, _, _, _, _⟩) rfl (fun K hK => ?_) AllReadyH.nil)
          go_simp
          go_wp2_with fail
          have nz := liv_new hHeld
          have L10 := nz.1
          have hSa := keep15k nz.2 hHeld
          have hn0 := Nat.ne_of_gt (cell_lt hHeld.1)
          have hn1 := Nat.ne_of_gt (cell_lt hHeld.2.2.2.2.2.2.2.2.2.2.2.2.1)
          have hn2 := hHeld.2.2.2.2.2.2.2.2.2.2.2.2.2.2.2.size
          try (have R3 := Lib.hid (R3.out.keep nz.2))
          try (have B3 := Lib.hid (B3.out.keep nz.2))
          try (have S3 := Lib.hid (S3.out.keep nz.2))
          try (have W3 := Lib.hid (W3.out.keep nz.2))
          refine hK.out _ _ ?_ (fun hHeld => ?_)
          · (try dsimp only); (assumption)
          clear hK K
          try simp only [Act.put, List.setIfInBounds_toArray, List.set_cons_zero, List.set_cons_succ]
          refine wpAnyH_ready (rs := [11]) (by kernel_rfl) (by simp) ?_
          refine (AllReadyH.cons (o := ⟨none, _, _, _, _, _⟩) rfl (fun K hK => ?_) AllReadyH.nil)
          go_simp
          go_wp2_with fail
          refine hK.out _ _ ?_ (fun hHeld => ?_)
          · (try dsimp only); (first | exact keep15k ((Kp.refl _).alloc _) hS4 | exact ⟨by simp [go_sem, *], by simp [go_sem, *], by simp [go_sem, *], by simp [go_sem, *], by simp [go_sem, *], by simp [go_sem, *], by simp [go_sem, *], by simp [go_sem, *], by simp [go_sem, *], by simp [go_sem, *], by simp [go_sem, *], by simp [go_sem, *], by simp [go_sem, *], by simp [go_sem, *], by simp [go_sem, *], ((hHeld.2.2.2.2.2.2.2.2.2.2.2.2.2.2.2.setCell (by first | omega | (simp; omega)) _).setCell (by first | omega | (simp; omega)) _).setCell (by first | omega | (simp; omega)) _⟩)
          clear hK K
          try simp only [Act.put, List.setIfInBounds_toArray, List.set_cons_zero, List.set_cons_succ]
          refine wpAnyH_take (i := 12) (oi := ⟨some 11, _, _, _, _, _⟩) (v := ?_) rfl (by kernel_rfl) (by kernel_rfl) (by kernel_rfl) (fun _ _ _ h => h) (Or.inl ⟨by rfl, ?_⟩) (by assumption) ?_
          rotate_left
          · intro w hSw; (try dsimp only at hSw); go_simp; (all_goals with_reducible rfl)
          simp only [Act.put, List.setIfInBounds_toArray, List.set_cons_zero, List.set_cons_succ]
          refine wpAnyH_done (by kernel_rfl) ?_ _
          go_wp2_with fail
          go_meet
          exact ⟨_, A0, c0, rfl, rfl, ⟨by first | (simp [go_sem]; done) | simp [go_sem, *], by first | (simp [go_sem]; done) | simp [go_sem, *], by first | (simp [go_sem]; done) | simp [go_sem, *]⟩, StaAt.mk (by first | exact (W3o.out.keep ((Kp.refl _).alloc _)).rd | exact (((W3.out.far NB.out _).far NB.out _).far NB.out _).rd) (by rw [HNL.out]; exact hn6) HIL.out, hHeld⟩
        · go_simp
          go_wp2_with fail
          have nz := liv_new hHeld
          have L10 := nz.1
          have hSa := keep15k nz.2 hHeld
          have hn0 := Nat.ne_of_gt (cell_lt hHeld.1)
          have hn1 := Nat.ne_of_gt (cell_lt hHeld.2.2.2.2.2.2.2.2.2.2.2.2.1)
          have hn2 := hHeld.2.2.2.2.2.2.2.2.2.2.2.2.2.2.2.size
          try (have R3 := Lib.hid (R3.out.keep nz.2))
          try (have B3 := Lib.hid (B3.out.keep nz.2))
          try (have S3 := Lib.hid (S3.out.keep nz.2))
          try (have W3 := Lib.hid (W3.out.keep nz.2))
          refine hK.out _ _ ?_ (fun hHeld => ?_)
          · (try dsimp only); (assumption)
          clear hK K
          try simp only [Act.put, List.setIfInBounds_toArray, List.set_cons_zero, List.set_cons_succ]
          refine wpAnyH_ready (rs := [6]) (by kernel_rfl) (by simp) ?_
          refine (AllReadyH.cons (o := ⟨some 38, _, _, _, _, _⟩) rfl (fun K hK => ?_) AllReadyH.nil)
          go_simp
          try (have hzB := cell_lt L10.1.1)
          refine (CS.out _ _ _ _ _ _ _ _ _ _ _ B3.out S3.out).mono ?_
          rintro e4 w4 ⟨A0, c0, rfl, o4, k4⟩
          have hS4 := keep15k k4 hHeld
          have W3 := Lib.hid o4
          have W3o := Lib.hid o4
          try (have NB := Lib.hid (o4.not hzB))
          try (have L10 := livS_keep k4 L10)
          go_wp2_with fail
          refine hK.out _ _ ?_ (fun hHeld => ?_)
          · (try dsimp only); (assumption)
          clear hK K
          try simp only [Act.put, List.setIfInBounds_toArray, List.set_cons_zero, List.set_cons_succ]
          refine wpAnyH_take (i := 7) (oi := ⟨some 31, _, _, _, _, _⟩) (v := ?_) rfl (by kernel_rfl) (by kernel_rfl) (by kernel_rfl) (fun _ _ _ h => h) (Or.inl ⟨by rfl, ?_⟩) (by assumption) ?_
          rotate_left
          · intro w hSw; (try dsimp only at hSw); go_simp; (all_goals with_reducible rfl)
          simp only [Act.put, List.setIfInBounds_toArray, List.set_cons_zero, List.set_cons_succ]
          refine wpAnyH_take (i := 8) (oi := ⟨some 39, _, _, _, _, _⟩) (v := ?_) rfl (by kernel_rfl) (by kernel_rfl) (by kernel_rfl) (fun _ _ _ h => h) (Or.inl ⟨by rfl, ?_⟩) (by assumption) ?_
          rotate_left
          · intro w hSw; (try dsimp only at hSw); go_simp; (all_goals with_reducible rfl)
          simp only [Act.put, List.setIfInBounds_toArray, List.set_cons_zero, List.set_cons_succ]
          refine wpAnyH_take (i := 9) (oi := ⟨some 40, _, _, _, _, _⟩) (v := ?_) rfl (by kernel_rfl) (by kernel_rfl) (by kernel_rfl) (fun _ _ _ h => h) (Or.inl ⟨by rfl, ?_⟩) (by assumption) ?_
          rotate_left
          · intro w hSw; (try dsimp only at hSw); go_simp; (all_goals with_reducible rfl)
          simp only [Act.put, List.setIfInBounds_toArray, List.set_cons_zero, List.set_cons_succ]
          refine wpAnyH_ready (rs := [11]) (by kernel_rfl) (by simp) ?_
          refine (AllReadyH.cons (o := ⟨none, _, _, _, _, _⟩) rfl (fun K hK => ?_) AllReadyH.nil)
          go_simp
          go_wp2_with fail
          refine hK.out _ _ ?_ (fun hHeld => ?_)
          · (try dsimp only); (first | exact keep15k ((Kp.refl _).alloc _) hS4 | exact ⟨by simp [go_sem, *], by simp [go_sem, *], by simp [go_sem, *], by simp [go_sem, *], by simp [go_sem, *], by simp [go_sem, *], by simp [go_sem, *], by simp [go_sem, *], by simp [go_sem, *], by simp [go_sem, *], by simp [go_sem, *], by simp [go_sem, *], by simp [go_sem, *], by simp [go_sem, *], by simp [go_sem, *], ((hHeld.2.2.2.2.2.2.2.2.2.2.2.2.2.2.2.setCell (by first | omega | (simp; omega)) _).setCell (by first | omega | (simp; omega)) _).setCell (by first | omega | (simp; omega)) _⟩)
          clear hK K
          try simp only [Act.put, List.setIfInBounds_toArray, List.set_cons_zero, List.set_cons_succ]
          refine wpAnyH_take (i := 12) (oi := ⟨some 11, _, _, _, _, _⟩) (v := ?_) rfl (by kernel_rfl) (by kernel_rfl) (by kernel_rfl) (fun _ _ _ h => h) (Or.inl ⟨by rfl, ?_⟩) (by assumption) ?_
          rotate_left
          · intro w hSw; (try dsimp only at hSw); go_simp; (all_goals with_reducible rfl)
          simp only [Act.put, List.setIfInBounds_toArray, List.set_cons_zero, List.set_cons_succ]
          refine wpAnyH_done (by kernel_rfl) ?_ _
          go_wp2_with fail
          go_meet
          exact ⟨_, A0, c0, rfl, rfl, ⟨by first | (simp [go_sem]; done) | simp [go_sem, *], by first | (simp [go_sem]; done) | simp [go_sem, *], by first | (simp [go_sem]; done) | simp [go_sem, *]⟩, StaAt.mk (by first | exact (W3o.out.keep ((Kp.refl _).alloc _)).rd | exact (((W3.out.far NB.out _).far NB.out _).far NB.out _).rd) (by rw [HNL.out]; exact hn6) HIL.out, hHeld⟩
      · go_simp
        go_wp2_with fail
        have nz := liv_new hHeld
        have L10 := nz.1
        have hSa := keep15k nz.2 hHeld
        have hn0 := Nat.ne_of_gt (cell_lt hHeld.1)
        have hn1 := Nat.ne_of_gt (cell_lt hHeld.2.2.2.2.2.2.2.2.2.2.2.2.1)
        have hn2 := hHeld.2.2.2.2.2.2.2.2.2.2.2.2.2.2.2.size
        try (have R3 := Lib.hid (R3.out.keep nz.2))
        try (have B3 := Lib.hid (B3.out.keep nz.2))
        try (have S3 := Lib.hid (S3.out.keep nz.2))
        try (have W3 := Lib.hid (W3.out.keep nz.2))
        refine hK.out _ _ ?_ (fun hHeld => ?_)
        · (try dsimp only); (assumption)
        clear hK K
        try simp only [Act.put, List.setIfInBounds_toArray, List.set_cons_zero, List.set_cons_succ]
        refine wpAnyH_ready (rs := [3]) (by kernel_rfl) (by simp) ?_
        refine (AllReadyH.cons (o := ⟨some 35, _, _, _, _, _⟩) rfl (fun K hK => ?_) AllReadyH.nil)
        go_simp
        refine (toState_any T Z _ us mu _ (LA.out.keep hHeld.2.2.2.2.2.2.2.2.2.2.2.2.2.2.2) HE4.out).mono ?_
        rintro e3' w3' ⟨gua, rfl, o3', k3'⟩
        have hS3' := keep15k k3' hHeld
        have B3 := Lib.hid (R3.out.keep k3')
        have S3 := Lib.hid (o3'.sta LA.out)
        try (have L10 := livS_keep k3' L10)
        go_wp2_with fail
        refine hK.out _ _ ?_ (fun hHeld => ?_)
        · (try dsimp only); (assumption)
        clear hK K
        try simp only [Act.put, List.setIfInBounds_toArray, List.set_cons_zero, List.set_cons_succ]
        refine wpAnyH_ready (rs := [6]) (by kernel_rfl) (by simp) ?_
        refine (AllReadyH.cons (o := ⟨some 38, _, _, _, _, _⟩) rfl (fun K hK => ?_) AllReadyH.nil)
        go_simp
        try (have hzB := cell_lt L10.1.1)
        refine (CS.out _ _ _ _ _ _ _ _ _ _ _ B3.out S3.out).mono ?_
        rintro e4 w4 ⟨A0, c0, rfl, o4, k4⟩
        have hS4 := keep15k k4 hHeld
        have W3 := Lib.hid o4
        have W3o := Lib.hid o4
        try (have NB := Lib.hid (o4.not hzB))
        try (have L10 := livS_keep k4 L10)
        go_wp2_with fail
        refine hK.out _ _ ?_ (fun hHeld => ?_)
        · (try dsimp only); (assumption)
        clear hK K
        try simp only [Act.put, List.setIfInBounds_toArray, List.set_cons_zero, List.set_cons_succ]
        refine wpAnyH_take (i := 7) (oi := ⟨some 31, _, _, _, _, _⟩) (v := ?_) rfl (by kernel_rfl) (by kernel_rfl) (by kernel_rfl) (fun _ _ _ h => h) (Or.inl ⟨by rfl, ?_⟩) (by assumption) ?_
        rotate_left
        · intro w hSw; (try dsimp only at hSw); go_simp; (all_goals with_reducible rfl)
        simp only [Act.put, List.setIfInBounds_toArray, List.set_cons_zero, List.set_cons_succ]
        refine wpAnyH_take (i := 8) (oi := ⟨some 39, _, _, _, _, _⟩) (v := ?_) rfl (by kernel_rfl) (by kernel_rfl) (by kernel_rfl) (fun _ _ _ h => h) (Or.inl ⟨by rfl, ?_⟩) (by assumption) ?_
        rotate_left
        · intro w hSw; (try dsimp only at hSw); go_simp; (all_goals with_reducible rfl)
        simp only [Act.put, List.setIfInBounds_toArray, List.set_cons_zero, List.set_cons_succ]
        refine wpAnyH_take (i := 9) (oi := ⟨some 40, _, _, _, _, _⟩) (v := ?_) rfl (by kernel_rfl) (by kernel_rfl) (by kernel_rfl) (fun _ _ _ h => h) (Or.inl ⟨by rfl, ?_⟩) (by assumption) ?_
        rotate_left
        · intro w hSw; (try dsimp only at hSw); go_simp; (all_goals with_reducible rfl)
        simp only [Act.put, List.setIfInBounds_toArray, List.set_cons_zero, List.set_cons_succ]
        refine wpAnyH_ready (rs := [11]) (by kernel_rfl) (by simp) ?_
        refine (AllReadyH.cons (o := ⟨none, _, _, _, _, _⟩) rfl (fun K hK => ?_) AllReadyH.nil)
        go_simp
        go_wp2_with fail
        refine hK.out _ _ ?_ (fun hHeld => ?_)
        · (try dsimp only); (first | exact keep15k ((Kp.refl _).alloc _) hS4 | exact ⟨by simp [go_sem, *], by simp [go_sem, *], by simp [go_sem, *], by simp [go_sem, *], by simp [go_sem, *], by simp [go_sem, *], by simp [go_sem, *], by simp [go_sem, *], by simp [go_sem, *], by simp [go_sem, *], by simp [go_sem, *], by simp [go_sem, *], by simp [go_sem, *], by simp [go_sem, *], by simp [go_sem, *], ((hHeld.2.2.2.2.2.2.2.2.2.2.2.2.2.2.2.setCell (by first | omega | (simp; omega)) _).setCell (by first | omega | (simp; omega)) _).setCell (by first | omega | (simp; omega)) _⟩)
        clear hK K
        try simp only [Act.put, List.setIfInBounds_toArray, List.set_cons_zero, List.set_cons_succ]
        refine wpAnyH_take (i := 12) (oi := ⟨some 11, _, _, _, _, _⟩) (v := ?_) rfl (by kernel_rfl) (by kernel_rfl) (by kernel_rfl) (fun _ _ _ h => h) (Or.inl ⟨by rfl, ?_⟩) (by assumption) ?_
        rotate_left
        · intro w hSw; (try dsimp only at hSw); go_simp; (all_goals with_reducible rfl)
        simp only [Act.put, List.setIfInBounds_toArray, List.set_cons_zero, List.set_cons_succ]
        refine wpAnyH_done (by kernel_rfl) ?_ _
        go_wp2_with fail
        go_meet
        exact ⟨_, A0, c0, rfl, rfl, ⟨by first | (simp [go_sem]; done) | simp [go_sem, *], by first | (simp [go_sem]; done) | simp [go_sem, *], by first | (simp [go_sem]; done) | simp [go_sem, *]⟩, StaAt.mk (by first | exact (W3o.out.keep ((Kp.refl _).alloc _)).rd | exact (((W3.out.far NB.out _).far NB.out _).far NB.out _).rd) (by rw [HNL.out]; exact hn6) HIL.out, hHeld⟩
    · go_simp
      go_wp2_with fail
      have nz := liv_new hHeld
      have L10 := nz.1
      have hSa := keep15k nz.2 hHeld
      have hn0 := Nat.ne_of_gt (cell_lt hHeld.1)
      have hn1 := Nat.ne_of_gt (cell_lt hHeld.2.2.2.2.2.2.2.2.2.2.2.2.1)
      have hn2 := hHeld.2.2.2.2.2.2.2.2.2.2.2.2.2.2.2.size
      try (have R3 := Lib.hid (R3.out.keep nz.2))
      try (have B3 := Lib.hid (B3.out.keep nz.2))
      try (have S3 := Lib.hid (S3.out.keep nz.2))
      try (have W3 := Lib.hid (W3.out.keep nz.2))
      refine hK.out _ _ ?_ (fun hHeld => ?_)
      · (try dsimp only); (assumption)
      clear hK K
      try simp only [Act.put, List.setIfInBounds_toArray, List.set_cons_zero, List.set_cons_succ]
      refine wpAnyH_ready (rs := [1]) (by kernel_rfl) (by simp) ?_
      refine (AllReadyH.cons (o := ⟨some 33, _, _, _, _, _⟩) rfl (fun K hK => ?_) AllReadyH.nil)
      go_simp
      refine (toBoard_any _ _ _ _ _ _ l m _ _ _ _ _ _ _ _ _ _ lt lr ld mt mr md _ (RA.out.keep hHeld.2.2.2.2.2.2.2.2.2.2.2.2.2.2.2) HE1.out HE2.out HE3.out).mono ?_
      rintro e3 w3 ⟨g1a, g2a, csa, ysa, zsa, A1a, c1a, A2a, c2a, A3a, c3a, rfl, o3, k3⟩
      have hS3 := keep15k k3 hHeld
      have R3 := Lib.hid (o3.at RA.out)
      try (have L10 := livS_keep k3 L10)
      go_wp2_with fail
      refine hK.out _ _ ?_ (fun hHeld => ?_)
      · (try dsimp only); (assumption)
      clear hK K
      try simp only [Act.put, List.setIfInBounds_toArray, List.set_cons_zero, List.set_cons_succ]
      refine wpAnyH_ready (rs := [3]) (by kernel_rfl) (by simp) ?_
      refine (AllReadyH.cons (o := ⟨some 35, _, _, _, _, _⟩) rfl (fun K hK => ?_) AllReadyH.nil)
      go_simp
      refine (toState_any T Z _ us mu _ (LA.out.keep hHeld.2.2.2.2.2.2.2.2.2.2.2.2.2.2.2) HE4.out).mono ?_
      rintro e3' w3' ⟨gua, rfl, o3', k3'⟩
      have hS3' := keep15k k3' hHeld
      have B3 := Lib.hid (R3.out.keep k3')
      have S3 := Lib.hid (o3'.sta LA.out)
      try (have L10 := livS_keep k3' L10)
      go_wp2_with fail
      refine hK.out _ _ ?_ (fun hHeld => ?_)
      · (try dsimp only); (assumption)
      clear hK K
      try simp only [Act.put, List.setIfInBounds_toArray, List.set_cons_zero, List.set_cons_succ]
      refine wpAnyH_ready (rs := [6]) (by kernel_rfl) (by simp) ?_
      refine (AllReadyH.cons (o := ⟨some 38, _, _, _, _, _⟩) rfl (fun K hK => ?_) AllReadyH.nil)
      go_simp
      try (have hzB := cell_lt L10.1.1)
      refine (CS.out _ _ _ _ _ _ _ _ _ _ _ B3.out S3.out).mono ?_
      rintro e4 w4 ⟨A0, c0, rfl, o4, k4⟩
      have hS4 := keep15k k4 hHeld
      have W3 := Lib.hid o4
      have W3o := Lib.hid o4
      try (have NB := Lib.hid (o4.not hzB))
      try (have L10 := livS_keep k4 L10)
      go_wp2_with fail
      refine hK.out _ _ ?_ (fun hHeld => ?_)
      · (try dsimp only); (assumption)
      clear hK K
      try simp only [Act.put, List.setIfInBounds_toArray, List.set_cons_zero, List.set_cons_succ]
      refine wpAnyH_take (i := 7) (oi := ⟨some 31, _, _, _, _, _⟩) (v := ?_) rfl (by kernel_rfl) (by kernel_rfl) (by kernel_rfl) (fun _ _ _ h => h) (Or.inl ⟨by rfl, ?_⟩) (by assumption) ?_
      rotate_left
      · intro w hSw; (try dsimp only at hSw); go_simp; (all_goals with_reducible rfl)
      simp only [Act.put, List.setIfInBounds_toArray, List.set_cons_zero, List.set_cons_succ]
      refine wpAnyH_take (i := 8) (oi := ⟨some 39, _, _, _, _, _⟩) (v := ?_) rfl (by kernel_rfl) (by kernel_rfl) (by kernel_rfl) (fun _ _ _ h => h) (Or.inl ⟨by rfl, ?_⟩) (by assumption) ?_
      rotate_left
      · intro w hSw; (try dsimp only at hSw); go_simp; (all_goals with_reducible rfl)
      simp only [Act.put, List.setIfInBounds_toArray, List.set_cons_zero, List.set_cons_succ]
      refine wpAnyH_take (i := 9) (oi := ⟨some 40, _, _, _, _, _⟩) (v := ?_) rfl (by kernel_rfl) (by kernel_rfl) (by kernel_rfl) (fun _ _ _ h => h) (Or.inl ⟨by rfl, ?_⟩) (by assumption) ?_
      rotate_left
      · intro w hSw; (try dsimp only at hSw); go_simp; (all_goals with_reducible rfl)
      simp only [Act.put, List.setIfInBounds_toArray, List.set_cons_zero, List.set_cons_succ]
      refine wpAnyH_ready (rs := [11]) (by kernel_rfl) (by simp) ?_
      refine (AllReadyH.cons (o := ⟨none, _, _, _, _, _⟩) rfl (fun K hK => ?_) AllReadyH.nil)
      go_simp
      go_wp2_with fail
      refine hK.out _ _ ?_ (fun hHeld => ?_)
      · (try dsimp only); (first | exact keep15k ((Kp.refl _).alloc _) hS4 | exact ⟨by simp [go_sem, *], by simp [go_sem, *], by simp [go_sem, *], by simp [go_sem, *], by simp [go_sem, *], by simp [go_sem, *], by simp [go_sem, *], by simp [go_sem, *], by simp [go_sem, *], by simp [go_sem, *], by simp [go_sem, *], by simp [go_sem, *], by simp [go_sem, *], by simp [go_sem, *], by simp [go_sem, *], ((hHeld.2.2.2.2.2.2.2.2.2.2.2.2.2.2.2.setCell (by first | omega | (simp; omega)) _).setCell (by first | omega | (simp; omega)) _).setCell (by first | omega | (simp; omega)) _⟩)
      clear hK K
      try simp only [Act.put, List.setIfInBounds_toArray, List.set_cons_zero, List.set_cons_succ]
      refine wpAnyH_take (i := 12) (oi := ⟨some 11, _, _, _, _, _⟩) (v := ?_) rfl (by kernel_rfl) (by kernel_rfl) (by kernel_rfl) (fun _ _ _ h => h) (Or.inl ⟨by rfl, ?_⟩) (by assumption) ?_
      rotate_left
      · intro w hSw; (try dsimp only at hSw); go_simp; (all_goals with_reducible rfl)
      simp only [Act.put, List.setIfInBounds_toArray, List.set_cons_zero, List.set_cons_succ]
      refine wpAnyH_done (by kernel_rfl) ?_ _
      go_wp2_with fail
      go_meet
      exact ⟨_, A0, c0, rfl, rfl, ⟨by first | (simp [go_sem]; done) | simp [go_sem, *], by first | (simp [go_sem]; done) | simp [go_sem, *], by first | (simp [go_sem]; done) | simp [go_sem, *]⟩, StaAt.mk (by first | exact (W3o.out.keep ((Kp.refl _).alloc _)).rd | exact (((W3.out.far NB.out _).far NB.out _).far NB.out _).rd) (by rw [HNL.out]; exact hn6) HIL.out, hHeld⟩
  case rest =>
    obtain ⟨B0, A0, c0, rfl, rfl, LB, W0S, s4⟩ := hcut
    have CB := Lib.hid (show (wc.cell? ⟨B0, 0, none⟩ = some (.int .i64 X) ∧ wc.cell? ⟨B0, 1, none⟩ = some (.int .i64 Y) ∧ wc.cell? ⟨B0, 2, none⟩ = some (.slice A0 nL c0)) from ⟨LB.1.1, LB.2.1.1, LB.2.2.1⟩)
    have WS := Lib.hid W0S
    have HS4 := Lib.hid s4
    have hzc := cell_lt s4.1
    clear LB W0S
    go_wp2_with fail
    refine (toBoard_any _ _ _ _ _ _ l m _ _ _ _ _ _ _ _ _ _ lt lr ld mt mr md _ (RA.out.keep s4.2.2.2.2.2.2.2.2.2.2.2.2.2.2.2) HE1.out HE2.out HE3.out).mono ?_
    rintro e5 w5 ⟨g1b, g2b, csb, ysb, zsb, A1b, c1b, A2b, c2b, A3b, c3b, rfl, o5, k5⟩
    have s5a := keep15k k5 s4
    have kb : Kp w5 (w5.alloc (.cells #[.slice (some ⟨g1b, 0, none⟩) nt nt, .slice (some ⟨g2b, 0, none⟩) nk nk, .int .i64 a, .int .i64 b, .int .i64 c, .int .i64 d, .int .i64 e, .int .i64 W, .int .i64 H, .slice A1b mt c1b, .slice A2b mr c2b, .slice A3b md c3b] 44)) := (Kp.refl w5).alloc _
    have s5 : (w5.alloc (.cells #[.slice (some ⟨g1b, 0, none⟩) nt nt, .slice (some ⟨g2b, 0, none⟩) nk nk, .int .i64 a, .int .i64 b, .int .i64 c, .int .i64 d, .int .i64 e, .int .i64 W, .int .i64 H, .slice A1b mt c1b, .slice A2b mr c2b, .slice A3b md c3b] 44)).cell? ⟨w.heap.size, 0, none⟩ = some (.slice At nt ct) ∧ (w5.alloc (.cells #[.slice (some ⟨g1b, 0, none⟩) nt nt, .slice (some ⟨g2b, 0, none⟩) nk nk, .int .i64 a, .int .i64 b, .int .i64 c, .int .i64 d, .int .i64 e, .int .i64 W, .int .i64 H, .slice A1b mt c1b, .slice A2b mr c2b, .slice A3b md c3b] 44)).cell? ⟨w.heap.size, 1, none⟩ = some (.slice Ak nk ck) ∧ (w5.alloc (.cells #[.slice (some ⟨g1b, 0, none⟩) nt nt, .slice (some ⟨g2b, 0, none⟩) nk nk, .int .i64 a, .int .i64 b, .int .i64 c, .int .i64 d, .int .i64 e, .int .i64 W, .int .i64 H, .slice A1b mt c1b, .slice A2b mr c2b, .slice A3b md c3b] 44)).cell? ⟨w.heap.size, 2, none⟩ = some (.int .i64 a) ∧ (w5.alloc (.cells #[.slice (some ⟨g1b, 0, none⟩) nt nt, .slice (some ⟨g2b, 0, none⟩) nk nk, .int .i64 a, .int .i64 b, .int .i64 c, .int .i64 d, .int .i64 e, .int .i64 W, .int .i64 H, .slice A1b mt c1b, .slice A2b mr c2b, .slice A3b md c3b] 44)).cell? ⟨w.heap.size, 3, none⟩ = some (.int .i64 b) ∧ (w5.alloc (.cells #[.slice (some ⟨g1b, 0, none⟩) nt nt, .slice (some ⟨g2b, 0, none⟩) nk nk, .int .i64 a, .int .i64 b, .int .i64 c, .int .i64 d, .int .i64 e, .int .i64 W, .int .i64 H, .slice A1b mt c1b, .slice A2b mr c2b, .slice A3b md c3b] 44)).cell? ⟨w.heap.size, 4, none⟩ = some (.int .i64 c) ∧ (w5.alloc (.cells #[.slice (some ⟨g1b, 0, none⟩) nt nt, .slice (some ⟨g2b, 0, none⟩) nk nk, .int .i64 a, .int .i64 b, .int .i64 c, .int .i64 d, .int .i64 e, .int .i64 W, .int .i64 H, .slice A1b mt c1b, .slice A2b mr c2b, .slice A3b md c3b] 44)).cell? ⟨w.heap.size, 5, none⟩ = some (.int .i64 d) ∧ (w5.alloc (.cells #[.slice (some ⟨g1b, 0, none⟩) nt nt, .slice (some ⟨g2b, 0, none⟩) nk nk, .int .i64 a, .int .i64 b, .int .i64 c, .int .i64 d, .int .i64 e, .int .i64 W, .int .i64 H, .slice A1b mt c1b, .slice A2b mr c2b, .slice A3b md c3b] 44)).cell? ⟨w.heap.size, 6, none⟩ = some (.int .i64 e) ∧ (w5.alloc (.cells #[.slice (some ⟨g1b, 0, none⟩) nt nt, .slice (some ⟨g2b, 0, none⟩) nk nk, .int .i64 a, .int .i64 b, .int .i64 c, .int .i64 d, .int .i64 e, .int .i64 W, .int .i64 H, .slice A1b mt c1b, .slice A2b mr c2b, .slice A3b md c3b] 44)).cell? ⟨w.heap.size, 7, none⟩ = some (.int .i64 W) ∧ (w5.alloc (.cells #[.slice (some ⟨g1b, 0, none⟩) nt nt, .slice (some ⟨g2b, 0, none⟩) nk nk, .int .i64 a, .int .i64 b, .int .i64 c, .int .i64 d, .int .i64 e, .int .i64 W, .int .i64 H, .slice A1b mt c1b, .slice A2b mr c2b, .slice A3b md c3b] 44)).cell? ⟨w.heap.size, 8, none⟩ = some (.int .i64 H) ∧ (w5.alloc (.cells #[.slice (some ⟨g1b, 0, none⟩) nt nt, .slice (some ⟨g2b, 0, none⟩) nk nk, .int .i64 a, .int .i64 b, .int .i64 c, .int .i64 d, .int .i64 e, .int .i64 W, .int .i64 H, .slice A1b mt c1b, .slice A2b mr c2b, .slice A3b md c3b] 44)).cell? ⟨w.heap.size, 9, none⟩ = some (x) ∧ (w5.alloc (.cells #[.slice (some ⟨g1b, 0, none⟩) nt nt, .slice (some ⟨g2b, 0, none⟩) nk nk, .int .i64 a, .int .i64 b, .int .i64 c, .int .i64 d, .int .i64 e, .int .i64 W, .int .i64 H, .slice A1b mt c1b, .slice A2b mr c2b, .slice A3b md c3b] 44)).cell? ⟨w.heap.size, 10, none⟩ = some (r) ∧ (w5.alloc (.cells #[.slice (some ⟨g1b, 0, none⟩) nt nt, .slice (some ⟨g2b, 0, none⟩) nk nk, .int .i64 a, .int .i64 b, .int .i64 c, .int .i64 d, .int .i64 e, .int .i64 W, .int .i64 H, .slice A1b mt c1b, .slice A2b mr c2b, .slice A3b md c3b] 44)).cell? ⟨w.heap.size, 11, none⟩ = some (y) ∧ (w5.alloc (.cells #[.slice (some ⟨g1b, 0, none⟩) nt nt, .slice (some ⟨g2b, 0, none⟩) nk nk, .int .i64 a, .int .i64 b, .int .i64 c, .int .i64 d, .int .i64 e, .int .i64 W, .int .i64 H, .slice A1b mt c1b, .slice A2b mr c2b, .slice A3b md c3b] 44)).cell? ⟨w.heap.size + 1, 0, none⟩ = some (.int .i64 T) ∧ (w5.alloc (.cells #[.slice (some ⟨g1b, 0, none⟩) nt nt, .slice (some ⟨g2b, 0, none⟩) nk nk, .int .i64 a, .int .i64 b, .int .i64 c, .int .i64 d, .int .i64 e, .int .i64 W, .int .i64 H, .slice A1b mt c1b, .slice A2b mr c2b, .slice A3b md c3b] 44)).cell? ⟨w.heap.size + 1, 1, none⟩ = some (.int .i64 Z) ∧ (w5.alloc (.cells #[.slice (some ⟨g1b, 0, none⟩) nt nt, .slice (some ⟨g2b, 0, none⟩) nk nk, .int .i64 a, .int .i64 b, .int .i64 c, .int .i64 d, .int .i64 e, .int .i64 W, .int .i64 H, .slice A1b mt c1b, .slice A2b mr c2b, .slice A3b md c3b] 44)).cell? ⟨w.heap.size + 1, 2, none⟩ = some (u) ∧ (w5.alloc (.cells #[.slice (some ⟨g1b, 0, none⟩) nt nt, .slice (some ⟨g2b, 0, none⟩) nk nk, .int .i64 a, .int .i64 b, .int .i64 c, .int .i64 d, .int .i64 e, .int .i64 W, .int .i64 H, .slice A1b mt c1b, .slice A2b mr c2b, .slice A3b md c3b] 44)).cell? ⟨w5.heap.size, 0, none⟩ = some (.slice (some ⟨g1b, 0, none⟩) nt nt) ∧ (w5.alloc (.cells #[.slice (some ⟨g1b, 0, none⟩) nt nt, .slice (some ⟨g2b, 0, none⟩) nk nk, .int .i64 a, .int .i64 b, .int .i64 c, .int .i64 d, .int .i64 e, .int .i64 W, .int .i64 H, .slice A1b mt c1b, .slice A2b mr c2b, .slice A3b md c3b] 44)).cell? ⟨w5.heap.size, 1, none⟩ = some (.slice (some ⟨g2b, 0, none⟩) nk nk) ∧ (w5.alloc (.cells #[.slice (some ⟨g1b, 0, none⟩) nt nt, .slice (some ⟨g2b, 0, none⟩) nk nk, .int .i64 a, .int .i64 b, .int .i64 c, .int .i64 d, .int .i64 e, .int .i64 W, .int .i64 H, .slice A1b mt c1b, .slice A2b mr c2b, .slice A3b md c3b] 44)).cell? ⟨w5.heap.size, 2, none⟩ = some (.int .i64 a) ∧ (w5.alloc (.cells #[.slice (some ⟨g1b, 0, none⟩) nt nt, .slice (some ⟨g2b, 0, none⟩) nk nk, .int .i64 a, .int .i64 b, .int .i64 c, .int .i64 d, .int .i64 e, .int .i64 W, .int .i64 H, .slice A1b mt c1b, .slice A2b mr c2b, .slice A3b md c3b] 44)).cell? ⟨w5.heap.size, 3, none⟩ = some (.int .i64 b) ∧ (w5.alloc (.cells #[.slice (some ⟨g1b, 0, none⟩) nt nt, .slice (some ⟨g2b, 0, none⟩) nk nk, .int .i64 a, .int .i64 b, .int .i64 c, .int .i64 d, .int .i64 e, .int .i64 W, .int .i64 H, .slice A1b mt c1b, .slice A2b mr c2b, .slice A3b md c3b] 44)).cell? ⟨w5.heap.size, 4, none⟩ = some (.int .i64 c) ∧ (w5.alloc (.cells #[.slice (some ⟨g1b, 0, none⟩) nt nt, .slice (some ⟨g2b, 0, none⟩) nk nk, .int .i64 a, .int .i64 b, .int .i64 c, .int .i64 d, .int .i64 e, .int .i64 W, .int .i64 H, .slice A1b mt c1b, .slice A2b mr c2b, .slice A3b md c3b] 44)).cell? ⟨w5.heap.size, 5, none⟩ = some (.int .i64 d) ∧ (w5.alloc (.cells #[.slice (some ⟨g1b, 0, none⟩) nt nt, .slice (some ⟨g2b, 0, none⟩) nk nk, .int .i64 a, .int .i64 b, .int .i64 c, .int .i64 d, .int .i64 e, .int .i64 W, .int .i64 H, .slice A1b mt c1b, .slice A2b mr c2b, .slice A3b md c3b] 44)).cell? ⟨w5.heap.size, 6, none⟩ = some (.int .i64 e) ∧ (w5.alloc (.cells #[.slice (some ⟨g1b, 0, none⟩) nt nt, .slice (some ⟨g2b, 0, none⟩) nk nk, .int .i64 a, .int .i64 b, .int .i64 c, .int .i64 d, .int .i64 e, .int .i64 W, .int .i64 H, .slice A1b mt c1b, .slice A2b mr c2b, .slice A3b md c3b] 44)).cell? ⟨w5.heap.size, 7, none⟩ = some (.int .i64 W) ∧ (w5.alloc (.cells #[.slice (some ⟨g1b, 0, none⟩) nt nt, .slice (some ⟨g2b, 0, none⟩) nk nk, .int .i64 a, .int .i64 b, .int .i64 c, .int .i64 d, .int .i64 e, .int .i64 W, .int .i64 H, .slice A1b mt c1b, .slice A2b mr c2b, .slice A3b md c3b] 44)).cell? ⟨w5.heap.size, 8, none⟩ = some (.int .i64 H) ∧ (w5.alloc (.cells #[.slice (some ⟨g1b, 0, none⟩) nt nt, .slice (some ⟨g2b, 0, none⟩) nk nk, .int .i64 a, .int .i64 b, .int .i64 c, .int .i64 d, .int .i64 e, .int .i64 W, .int .i64 H, .slice A1b mt c1b, .slice A2b mr c2b, .slice A3b md c3b] 44)).cell? ⟨w5.heap.size, 9, none⟩ = some (.slice A1b mt c1b) ∧ (w5.alloc (.cells #[.slice (some ⟨g1b, 0, none⟩) nt nt, .slice (some ⟨g2b, 0, none⟩) nk nk, .int .i64 a, .int .i64 b, .int .i64 c, .int .i64 d, .int .i64 e, .int .i64 W, .int .i64 H, .slice A1b mt c1b, .slice A2b mr c2b, .slice A3b md c3b] 44)).cell? ⟨w5.heap.size, 10, none⟩ = some (.slice A2b mr c2b) ∧ (w5.alloc (.cells #[.slice (some ⟨g1b, 0, none⟩) nt nt, .slice (some ⟨g2b, 0, none⟩) nk nk, .int .i64 a, .int .i64 b, .int .i64 c, .int .i64 d, .int .i64 e, .int .i64 W, .int .i64 H, .slice A1b mt c1b, .slice A2b mr c2b, .slice A3b md c3b] 44)).cell? ⟨w5.heap.size, 11, none⟩ = some (.slice A3b md c3b) ∧ Kp w (w5.alloc (.cells #[.slice (some ⟨g1b, 0, none⟩) nt nt, .slice (some ⟨g2b, 0, none⟩) nk nk, .int .i64 a, .int .i64 b, .int .i64 c, .int .i64 d, .int .i64 e, .int .i64 W, .int .i64 H, .slice A1b mt c1b, .slice A2b mr c2b, .slice A3b md c3b] 44)) := ⟨kb.cell s5a.1, kb.cell s5a.2.1, kb.cell s5a.2.2.1, kb.cell s5a.2.2.2.1, kb.cell s5a.2.2.2.2.1, kb.cell s5a.2.2.2.2.2.1, kb.cell s5a.2.2.2.2.2.2.1, kb.cell s5a.2.2.2.2.2.2.2.1, kb.cell s5a.2.2.2.2.2.2.2.2.1, kb.cell s5a.2.2.2.2.2.2.2.2.2.1, kb.cell s5a.2.2.2.2.2.2.2.2.2.2.1, kb.cell s5a.2.2.2.2.2.2.2.2.2.2.2.1, kb.cell s5a.2.2.2.2.2.2.2.2.2.2.2.2.1, kb.cell s5a.2.2.2.2.2.2.2.2.2.2.2.2.2.1, kb.cell s5a.2.2.2.2.2.2.2.2.2.2.2.2.2.2.1, by simp [go_sem], by simp [go_sem], by simp [go_sem], by simp [go_sem], by simp [go_sem], by simp [go_sem], by simp [go_sem], by simp [go_sem], by simp [go_sem], by simp [go_sem], by simp [go_sem], by simp [go_sem], s5a.2.2.2.2.2.2.2.2.2.2.2.2.2.2.2.trans kb⟩
    have OR5 := Lib.hid (o5.keep kb)
    have I5 := Lib.hid (And.intro o5.R.z (And.intro (fun g e => (World.ownsRow.lt o5.M.ot g e).2) (And.intro (fun g e => (World.ownsRow.lt o5.M.or g e).2) (fun g e => (World.ownsRow.lt o5.M.od g e).2))))
    have K45 : Kp wc (w5.alloc (.cells #[.slice (some ⟨g1b, 0, none⟩) nt nt, .slice (some ⟨g2b, 0, none⟩) nk nk, .int .i64 a, .int .i64 b, .int .i64 c, .int .i64 d, .int .i64 e, .int .i64 W, .int .i64 H, .slice A1b mt c1b, .slice A2b mr c2b, .slice A3b md c3b] 44)) := k5.trans kb
    have hz45 := k5.size
    clear s4 k5 o5 s5a kb
    go_wp2_with fail
    generalize hW5 : w5.alloc (.cells #[.slice (some ⟨g1b, 0, none⟩) nt nt, .slice (some ⟨g2b, 0, none⟩) nk nk, .int .i64 a, .int .i64 b, .int .i64 c, .int .i64 d, .int .i64 e, .int .i64 W, .int .i64 H, .slice A1b mt c1b, .slice A2b mr c2b, .slice A3b md c3b] 44) = W5 at *
    have hz5 : W5.heap.size = w5.heap.size + 1 := by rw [← hW5]; simp
    clear hW5
    refine (toState_any T Z _ us mu _ (LA.out.keep s5.2.2.2.2.2.2.2.2.2.2.2.2.2.2.2.2.2.2.2.2.2.2.2.2.2.2.2) HE4.out).mono ?_
    rintro e6 w6 ⟨gub, rfl, o6, k6⟩
    have s6a := keep27k k6 s5
    have kc : Kp w6 (w6.alloc (.cells #[.int .i64 T, .int .i64 Z, .slice (some ⟨gub, 0, none⟩) mu mu] 48)) := (Kp.refl w6).alloc _
    have s6 : (w6.alloc (.cells #[.int .i64 T, .int .i64 Z, .slice (some ⟨gub, 0, none⟩) mu mu] 48)).cell? ⟨w.heap.size, 0, none⟩ = some (.slice At nt ct) ∧ (w6.alloc (.cells #[.int .i64 T, .int .i64 Z, .slice (some ⟨gub, 0, none⟩) mu mu] 48)).cell? ⟨w.heap.size, 1, none⟩ = some (.slice Ak nk ck) ∧ (w6.alloc (.cells #[.int .i64 T, .int .i64 Z, .slice (some ⟨gub, 0, none⟩) mu mu] 48)).cell? ⟨w.heap.size, 2, none⟩ = some (.int .i64 a) ∧ (w6.alloc (.cells #[.int .i64 T, .int .i64 Z, .slice (some ⟨gub, 0, none⟩) mu mu] 48)).cell? ⟨w.heap.size, 3, none⟩ = some (.int .i64 b) ∧ (w6.alloc (.cells #[.int .i64 T, .int .i64 Z, .slice (some ⟨gub, 0, none⟩) mu mu] 48)).cell? ⟨w.heap.size, 4, none⟩ = some (.int .i64 c) ∧ (w6.alloc (.cells #[.int .i64 T, .int .i64 Z, .slice (some ⟨gub, 0, none⟩) mu mu] 48)).cell? ⟨w.heap.size, 5, none⟩ = some (.int .i64 d) ∧ (w6.alloc (.cells #[.int .i64 T, .int .i64 Z, .slice (some ⟨gub, 0, none⟩) mu mu] 48)).cell? ⟨w.heap.size, 6, none⟩ = some (.int .i64 e) ∧ (w6.alloc (.cells #[.int .i64 T, .int .i64 Z, .slice (some ⟨gub, 0, none⟩) mu mu] 48)).cell? ⟨w.heap.size, 7, none⟩ = some (.int .i64 W) ∧ (w6.alloc (.cells #[.int .i64 T, .int .i64 Z, .slice (some ⟨gub, 0, none⟩) mu mu] 48)).cell? ⟨w.heap.size, 8, none⟩ = some (.int .i64 H) ∧ (w6.alloc (.cells #[.int .i64 T, .int .i64 Z, .slice (some ⟨gub, 0, none⟩) mu mu] 48)).cell? ⟨w.heap.size, 9, none⟩ = some (x) ∧ (w6.alloc (.cells #[.int .i64 T, .int .i64 Z, .slice (some ⟨gub, 0, none⟩) mu mu] 48)).cell? ⟨w.heap.size, 10, none⟩ = some (r) ∧ (w6.alloc (.cells #[.int .i64 T, .int .i64 Z, .slice (some ⟨gub, 0, none⟩) mu mu] 48)).cell? ⟨w.heap.size, 11, none⟩ = some (y) ∧ (w6.alloc (.cells #[.int .i64 T, .int .i64 Z, .slice (some ⟨gub, 0, none⟩) mu mu] 48)).cell? ⟨w.heap.size + 1, 0, none⟩ = some (.int .i64 T) ∧ (w6.alloc (.cells #[.int .i64 T, .int .i64 Z, .slice (some ⟨gub, 0, none⟩) mu mu] 48)).cell? ⟨w.heap.size + 1, 1, none⟩ = some (.int .i64 Z) ∧ (w6.alloc (.cells #[.int .i64 T, .int .i64 Z, .slice (some ⟨gub, 0, none⟩) mu mu] 48)).cell? ⟨w.heap.size + 1, 2, none⟩ = some (u) ∧ (w6.alloc (.cells #[.int .i64 T, .int .i64 Z, .slice (some ⟨gub, 0, none⟩) mu mu] 48)).cell? ⟨w5.heap.size, 0, none⟩ = some (.slice (some ⟨g1b, 0, none⟩) nt nt) ∧ (w6.alloc (.cells #[.int .i64 T, .int .i64 Z, .slice (some ⟨gub, 0, none⟩) mu mu] 48)).cell? ⟨w5.heap.size, 1, none⟩ = some (.slice (some ⟨g2b, 0, none⟩) nk nk) ∧ (w6.alloc (.cells #[.int .i64 T, .int .i64 Z, .slice (some ⟨gub, 0, none⟩) mu mu] 48)).cell? ⟨w5.heap.size, 2, none⟩ = some (.int .i64 a) ∧ (w6.alloc (.cells #[.int .i64 T, .int .i64 Z, .slice (some ⟨gub, 0, none⟩) mu mu] 48)).cell? ⟨w5.heap.size, 3, none⟩ = some (.int .i64 b) ∧ (w6.alloc (.cells #[.int .i64 T, .int .i64 Z, .slice (some ⟨gub, 0, none⟩) mu mu] 48)).cell? ⟨w5.heap.size, 4, none⟩ = some (.int .i64 c) ∧ (w6.alloc (.cells #[.int .i64 T, .int .i64 Z, .slice (some ⟨gub, 0, none⟩) mu mu] 48)).cell? ⟨w5.heap.size, 5, none⟩ = some (.int .i64 d) ∧ (w6.alloc (.cells #[.int .i64 T, .int .i64 Z, .slice (some ⟨gub, 0, none⟩) mu mu] 48)).cell? ⟨w5.heap.size, 6, none⟩ = some (.int .i64 e) ∧ (w6.alloc (.cells #[.int .i64 T, .int .i64 Z, .slice (some ⟨gub, 0, none⟩) mu mu] 48)).cell? ⟨w5.heap.size, 7, none⟩ = some (.int .i64 W) ∧ (w6.alloc (.cells #[.int .i64 T, .int .i64 Z, .slice (some ⟨gub, 0, none⟩) mu mu] 48)).cell? ⟨w5.heap.size, 8, none⟩ = some (.int .i64 H) ∧ (w6.alloc (.cells #[.int .i64 T, .int .i64 Z, .slice (some ⟨gub, 0, none⟩) mu mu] 48)).cell? ⟨w5.heap.size, 9, none⟩ = some (.slice A1b mt c1b) ∧ (w6.alloc (.cells #[.int .i64 T, .int .i64 Z, .slice (some ⟨gub, 0, none⟩) mu mu] 48)).cell? ⟨w5.heap.size, 10, none⟩ = some (.slice A2b mr c2b) ∧ (w6.alloc (.cells #[.int .i64 T, .int .i64 Z, .slice (some ⟨gub, 0, none⟩) mu mu] 48)).cell? ⟨w5.heap.size, 11, none⟩ = some (.slice A3b md c3b) ∧ (w6.alloc (.cells #[.int .i64 T, .int .i64 Z, .slice (some ⟨gub, 0, none⟩) mu mu] 48)).cell? ⟨w6.heap.size, 0, none⟩ = some (.int .i64 T) ∧ (w6.alloc (.cells #[.int .i64 T, .int .i64 Z, .slice (some ⟨gub, 0, none⟩) mu mu] 48)).cell? ⟨w6.heap.size, 1, none⟩ = some (.int .i64 Z) ∧ (w6.alloc (.cells #[.int .i64 T, .int .i64 Z, .slice (some ⟨gub, 0, none⟩) mu mu] 48)).cell? ⟨w6.heap.size, 2, none⟩ = some (.slice (some ⟨gub, 0, none⟩) mu mu) ∧ Kp w (w6.alloc (.cells #[.int .i64 T, .int .i64 Z, .slice (some ⟨gub, 0, none⟩) mu mu] 48)) := ⟨kc.cell s6a.1, kc.cell s6a.2.1, kc.cell s6a.2.2.1, kc.cell s6a.2.2.2.1, kc.cell s6a.2.2.2.2.1, kc.cell s6a.2.2.2.2.2.1, kc.cell s6a.2.2.2.2.2.2.1, kc.cell s6a.2.2.2.2.2.2.2.1, kc.cell s6a.2.2.2.2.2.2.2.2.1, kc.cell s6a.2.2.2.2.2.2.2.2.2.1, kc.cell s6a.2.2.2.2.2.2.2.2.2.2.1, kc.cell s6a.2.2.2.2.2.2.2.2.2.2.2.1, kc.cell s6a.2.2.2.2.2.2.2.2.2.2.2.2.1, kc.cell s6a.2.2.2.2.2.2.2.2.2.2.2.2.2.1, kc.cell s6a.2.2.2.2.2.2.2.2.2.2.2.2.2.2.1, kc.cell s6a.2.2.2.2.2.2.2.2.2.2.2.2.2.2.2.1, kc.cell s6a.2.2.2.2.2.2.2.2.2.2.2.2.2.2.2.2.1, kc.cell s6a.2.2.2.2.2.2.2.2.2.2.2.2.2.2.2.2.2.1, kc.cell s6a.2.2.2.2.2.2.2.2.2.2.2.2.2.2.2.2.2.2.1, kc.cell s6a.2.2.2.2.2.2.2.2.2.2.2.2.2.2.2.2.2.2.2.1, kc.cell s6a.2.2.2.2.2.2.2.2.2.2.2.2.2.2.2.2.2.2.2.2.1, kc.cell s6a.2.2.2.2.2.2.2.2.2.2.2.2.2.2.2.2.2.2.2.2.2.1, kc.cell s6a.2.2.2.2.2.2.2.2.2.2.2.2.2.2.2.2.2.2.2.2.2.2.1, kc.cell s6a.2.2.2.2.2.2.2.2.2.2.2.2.2.2.2.2.2.2.2.2.2.2.2.1, kc.cell s6a.2.2.2.2.2.2.2.2.2.2.2.2.2.2.2.2.2.2.2.2.2.2.2.2.1, kc.cell s6a.2.2.2.2.2.2.2.2.2.2.2.2.2.2.2.2.2.2.2.2.2.2.2.2.2.1, kc.cell s6a.2.2.2.2.2.2.2.2.2.2.2.2.2.2.2.2.2.2.2.2.2.2.2.2.2.2.1, by simp [go_sem], by simp [go_sem], by simp [go_sem], s6a.2.2.2.2.2.2.2.2.2.2.2.2.2.2.2.2.2.2.2.2.2.2.2.2.2.2.2.trans kc⟩
    have OR6 := Lib.hid (OR5.out.keep (k6.trans kc))
    have OM6 := Lib.hid (o6.keep kc)
    have I6 := Lib.hid (fun g e => (World.ownsRow.lt o6 g e).2)
    have K46 : Kp wc (w6.alloc (.cells #[.int .i64 T, .int .i64 Z, .slice (some ⟨gub, 0, none⟩) mu mu] 48)) := K45.trans (k6.trans kc)
    have hz6 := k6.size
    clear s5 k6 o6 s6a kc OR5 K45
    go_wp2_with fail
    generalize hW6 : w6.alloc (.cells #[.int .i64 T, .int .i64 Z, .slice (some ⟨gub, 0, none⟩) mu mu] 48) = W6 at *
    have hz6' : W6.heap.size = w6.heap.size + 1 := by rw [← hW6]; simp
    clear hW6
    refine (CI.out _ _ _ _ _ _ _ _ _ _ _ (OR6.out.at RA.out) (OM6.out.sta LA.out) (HS0.out.keep s6.2.2.2.2.2.2.2.2.2.2.2.2.2.2.2.2.2.2.2.2.2.2.2.2.2.2.2.2.2.2) (HS1.out.keep s6.2.2.2.2.2.2.2.2.2.2.2.2.2.2.2.2.2.2.2.2.2.2.2.2.2.2.2.2.2.2) (HS2.out.keep s6.2.2.2.2.2.2.2.2.2.2.2.2.2.2.2.2.2.2.2.2.2.2.2.2.2.2.2.2.2.2) (HS3.out.keep s6.2.2.2.2.2.2.2.2.2.2.2.2.2.2.2.2.2.2.2.2.2.2.2.2.2.2.2.2.2.2)).mono ?_
    rintro e7 w7 ⟨A1, c1, rfl, o7, k7⟩
    have s7 := keep30k k7 s6
    have kg : Kp w7 (w7.alloc (.cells #[.int .i64 X, .int .i64 Y, .slice A1 nL c1] 48)) := (Kp.refl w7).alloc _
    have s8 := keep30k kg s7
    have g8 : ((w7.alloc (.cells #[.int .i64 X, .int .i64 Y, .slice A1 nL c1] 48)).cell? ⟨w7.heap.size, 0, none⟩ = some (.int .i64 X) ∧ (w7.alloc (.cells #[.int .i64 X, .int .i64 Y, .slice A1 nL c1] 48)).cell? ⟨w7.heap.size, 1, none⟩ = some (.int .i64 Y) ∧ (w7.alloc (.cells #[.int .i64 X, .int .i64 Y, .slice A1 nL c1] 48)).cell? ⟨w7.heap.size, 2, none⟩ = some (.slice A1 nL c1)) := ⟨by simp [go_sem], by simp [go_sem], by simp [go_sem]⟩
    have O8 := Lib.hid ((o7.base (b := w6.heap.size + 1) (by omega)).keep kg)
    have HG7 := Lib.hid (fun g e => (World.ownsRow.lt o7 g e).2)
    have OR7 := Lib.hid (OR6.out.keep (k7.trans kg))
    have OM7 := Lib.hid (OM6.out.keep (k7.trans kg))
    have K47 : Kp wc (w7.alloc (.cells #[.int .i64 X, .int .i64 Y, .slice A1 nL c1] 48)) := K46.trans (k7.trans kg)
    have hz7 := k7.size
    have b8 : ((w7.alloc (.cells #[.int .i64 X, .int .i64 Y, .slice A1 nL c1] 48)).cell? ⟨B0, 0, none⟩ = some (.int .i64 X) ∧ (w7.alloc (.cells #[.int .i64 X, .int .i64 Y, .slice A1 nL c1] 48)).cell? ⟨B0, 1, none⟩ = some (.int .i64 Y) ∧ (w7.alloc (.cells #[.int .i64 X, .int .i64 Y, .slice A1 nL c1] 48)).cell? ⟨B0, 2, none⟩ = some (.slice A0 nL c0)) := ⟨K47.cell CB.out.1, K47.cell CB.out.2.1, K47.cell CB.out.2.2⟩
    clear s6 k7 o7 OR6 OM6 K46 s7 kg
    go_wp2_with fail
    generalize hW8 : w7.alloc (.cells #[.int .i64 X, .int .i64 Y, .slice A1 nL c1] 48) = W8 at *
    have hz8 : W8.heap.size = w7.heap.size + 1 := by rw [← hW8]; simp
    clear hW8
    refine (eqState_same X Y _ _ LL _ (StaAt.mk O8.out.rd (by rw [HNL.out]; exact hn6) HIL.out) (WS.out.keep K47)).mono ?_
    rintro e8 w8 ⟨rfl, k8⟩
    have s8a := keep30k k8 s8
    have G8 := Lib.hid (show (w8.cell? ⟨w7.heap.size, 0, none⟩ = some (.int .i64 X) ∧ w8.cell? ⟨w7.heap.size, 1, none⟩ = some (.int .i64 Y) ∧ w8.cell? ⟨w7.heap.size, 2, none⟩ = some (.slice A1 nL c1)) from ⟨k8.cell g8.1, k8.cell g8.2.1, k8.cell g8.2.2⟩)
    have O7 := Lib.hid (O8.out.keep k8)
    have OR8 := Lib.hid (OR7.out.keep k8)
    have OM8 := Lib.hid (OM7.out.keep k8)
    have K48 : Kp wc w8 := K47.trans k8
    have hz8' := k8.size
    clear s8 g8 b8 k8 O8 OR7 OM7 K47
    go_wp2_with fail
    have s8 := drew30k s8a
    clear s8a
    go_wp2_with fail
    go_region_held3 (fun w' => w'.cell? ⟨w.heap.size, 0, none⟩ = some (.slice At nt ct) ∧ w'.cell? ⟨w.heap.size, 1, none⟩ = some (.slice Ak nk ck) ∧ w'.cell? ⟨w.heap.size, 2, none⟩ = some (.int .i64 a) ∧ w'.cell? ⟨w.heap.size, 3, none⟩ = some (.int .i64 b) ∧ w'.cell? ⟨w.heap.size, 4, none⟩ = some (.int .i64 c) ∧ w'.cell? ⟨w.heap.size, 5, none⟩ = some (.int .i64 d) ∧ w'.cell? ⟨w.heap.size, 6, none⟩ = some (.int .i64 e) ∧ w'.cell? ⟨w.heap.size, 7, none⟩ = some (.int .i64 W) ∧ w'.cell? ⟨w.heap.size, 8, none⟩ = some (.int .i64 H) ∧ w'.cell? ⟨w.heap.size, 9, none⟩ = some (x) ∧ w'.cell? ⟨w.heap.size, 10, none⟩ = some (r) ∧ w'.cell? ⟨w.heap.size, 11, none⟩ = some (y) ∧ w'.cell? ⟨w.heap.size + 1, 0, none⟩ = some (.int .i64 T) ∧ w'.cell? ⟨w.heap.size + 1, 1, none⟩ = some (.int .i64 Z) ∧ w'.cell? ⟨w.heap.size + 1, 2, none⟩ = some (u) ∧ w'.cell? ⟨w5.heap.size, 0, none⟩ = some (.slice (some ⟨g1b, 0, none⟩) nt nt) ∧ w'.cell? ⟨w5.heap.size, 1, none⟩ = some (.slice (some ⟨g2b, 0, none⟩) nk nk) ∧ w'.cell? ⟨w5.heap.size, 2, none⟩ = some (.int .i64 a) ∧ w'.cell? ⟨w5.heap.size, 3, none⟩ = some (.int .i64 b) ∧ w'.cell? ⟨w5.heap.size, 4, none⟩ = some (.int .i64 c) ∧ w'.cell? ⟨w5.heap.size, 5, none⟩ = some (.int .i64 d) ∧ w'.cell? ⟨w5.heap.size, 6, none⟩ = some (.int .i64 e) ∧ w'.cell? ⟨w5.heap.size, 7, none⟩ = some (.int .i64 W) ∧ w'.cell? ⟨w5.heap.size, 8, none⟩ = some (.int .i64 H) ∧ w'.cell? ⟨w5.heap.size, 9, none⟩ = some (.slice A1b mt c1b) ∧ w'.cell? ⟨w5.heap.size, 10, none⟩ = some (.slice A2b mr c2b) ∧ w'.cell? ⟨w5.heap.size, 11, none⟩ = some (.slice A3b md c3b) ∧ w'.cell? ⟨w6.heap.size, 0, none⟩ = some (.int .i64 T) ∧ w'.cell? ⟨w6.heap.size, 1, none⟩ = some (.int .i64 Z) ∧ w'.cell? ⟨w6.heap.size, 2, none⟩ = some (.slice (some ⟨gub, 0, none⟩) mu mu) ∧ Kp w w') (first | assumption | exact s8)
      (first
        | (go_at_call 11; refine (toBoard_any _ _ _ _ _ _ l m _ _ _ _ _ _ _ _ _ _ lt lr ld mt mr md _ (RA.out.keep s8.2.2.2.2.2.2.2.2.2.2.2.2.2.2.2.2.2.2.2.2.2.2.2.2.2.2.2.2.2.2) HE1.out HE2.out HE3.out).mono ?_; rintro e9 w9 ⟨g1c, g2c, csc, ysc, zsc, A1c, c1c, A2c, c2c, A3c, c3c, rfl, o9, k9⟩; have s9 := keep30k k9 s8; have L9 := Lib.hid (o9.at RA.out); have M9 := Lib.hid ((OR8.out.keep ((Kp.refl _).drew)).keep k9); have N9 := Lib.hid (M9.out.at RA.out); have k89 := Lib.hid ((Kp.refl w8).drew.trans k9))
        | (go_at_call 15; refine (eqBoard_same _ _ _ _ _ _ _ _ _ _ l m _ _ _ _ _ _ _ _ _ _ _ _ _ lt lr ld _ N9.out L9.out).mono ?_; rintro e10 w10 ⟨rfl, k10⟩; have s10a := keep30k k10 s9; have ORa := Lib.hid (M9.out.keep k10); have k8a := Lib.hid (k89.out.trans k10)))
    have Oa := Lib.hid (O7.out.keep k8a.out)
    have Ga := Lib.hid (show (w10.cell? ⟨w7.heap.size, 0, none⟩ = some (.int .i64 X) ∧ w10.cell? ⟨w7.heap.size, 1, none⟩ = some (.int .i64 Y) ∧ w10.cell? ⟨w7.heap.size, 2, none⟩ = some (.slice A1 nL c1)) from ⟨k8a.out.cell G8.out.1, k8a.out.cell G8.out.2.1, k8a.out.cell G8.out.2.2⟩)
    have OMa := Lib.hid (OM8.out.keep k8a.out)
    have K4a : Kp wc w10 := K48.trans k8a.out
    have hza := k8a.out.size
    clear s8 s9 L9 M9 N9 k89 k8a OR8 OM8 K48
    have s10 := drew30k s10a
    clear s10a
    go_wp2_with fail
    go_region_held3 (fun w' => w'.cell? ⟨w.heap.size, 0, none⟩ = some (.slice At nt ct) ∧ w'.cell? ⟨w.heap.size, 1, none⟩ = some (.slice Ak nk ck) ∧ w'.cell? ⟨w.heap.size, 2, none⟩ = some (.int .i64 a) ∧ w'.cell? ⟨w.heap.size, 3, none⟩ = some (.int .i64 b) ∧ w'.cell? ⟨w.heap.size, 4, none⟩ = some (.int .i64 c) ∧ w'.cell? ⟨w.heap.size, 5, none⟩ = some (.int .i64 d) ∧ w'.cell? ⟨w.heap.size, 6, none⟩ = some (.int .i64 e) ∧ w'.cell? ⟨w.heap.size, 7, none⟩ = some (.int .i64 W) ∧ w'.cell? ⟨w.heap.size, 8, none⟩ = some (.int .i64 H) ∧ w'.cell? ⟨w.heap.size, 9, none⟩ = some (x) ∧ w'.cell? ⟨w.heap.size, 10, none⟩ = some (r) ∧ w'.cell? ⟨w.heap.size, 11, none⟩ = some (y) ∧ w'.cell? ⟨w.heap.size + 1, 0, none⟩ = some (.int .i64 T) ∧ w'.cell? ⟨w.heap.size + 1, 1, none⟩ = some (.int .i64 Z) ∧ w'.cell? ⟨w.heap.size + 1, 2, none⟩ = some (u) ∧ w'.cell? ⟨w5.heap.size, 0, none⟩ = some (.slice (some ⟨g1b, 0, none⟩) nt nt) ∧ w'.cell? ⟨w5.heap.size, 1, none⟩ = some (.slice (some ⟨g2b, 0, none⟩) nk nk) ∧ w'.cell? ⟨w5.heap.size, 2, none⟩ = some (.int .i64 a) ∧ w'.cell? ⟨w5.heap.size, 3, none⟩ = some (.int .i64 b) ∧ w'.cell? ⟨w5.heap.size, 4, none⟩ = some (.int .i64 c) ∧ w'.cell? ⟨w5.heap.size, 5, none⟩ = some (.int .i64 d) ∧ w'.cell? ⟨w5.heap.size, 6, none⟩ = some (.int .i64 e) ∧ w'.cell? ⟨w5.heap.size, 7, none⟩ = some (.int .i64 W) ∧ w'.cell? ⟨w5.heap.size, 8, none⟩ = some (.int .i64 H) ∧ w'.cell? ⟨w5.heap.size, 9, none⟩ = some (.slice A1b mt c1b) ∧ w'.cell? ⟨w5.heap.size, 10, none⟩ = some (.slice A2b mr c2b) ∧ w'.cell? ⟨w5.heap.size, 11, none⟩ = some (.slice A3b md c3b) ∧ w'.cell? ⟨w6.heap.size, 0, none⟩ = some (.int .i64 T) ∧ w'.cell? ⟨w6.heap.size, 1, none⟩ = some (.int .i64 Z) ∧ w'.cell? ⟨w6.heap.size, 2, none⟩ = some (.slice (some ⟨gub, 0, none⟩) mu mu) ∧ Kp w w') (first | assumption | exact s10)
      (first
        | (go_at_call 12; refine (toState_any T Z _ us mu _ (LA.out.keep s10.2.2.2.2.2.2.2.2.2.2.2.2.2.2.2.2.2.2.2.2.2.2.2.2.2.2.2.2.2.2) HE4.out).mono ?_; rintro e11 w11 ⟨guc, rfl, o11, k11⟩; have s11 := keep30k k11 s10; have L11 := Lib.hid (o11.sta LA.out); have M11 := Lib.hid ((OMa.out.keep ((Kp.refl _).drew)).keep k11); have N11 := Lib.hid (M11.out.sta LA.out); have kab := Lib.hid ((Kp.refl w10).drew.trans k11))
        | (go_at_call 16; refine (eqState_same T Z _ _ us _ N11.out L11.out).mono ?_; rintro e12 w12 ⟨rfl, k12⟩; have s12 := keep30k k12 s11; have OMb := Lib.hid (M11.out.keep k12); have kac := Lib.hid (kab.out.trans k12)))
    have Ob := Lib.hid (Oa.out.keep kac.out)
    have Gb := Lib.hid (show (w12.cell? ⟨w7.heap.size, 0, none⟩ = some (.int .i64 X) ∧ w12.cell? ⟨w7.heap.size, 1, none⟩ = some (.int .i64 Y) ∧ w12.cell? ⟨w7.heap.size, 2, none⟩ = some (.slice A1 nL c1)) from ⟨kac.out.cell Ga.out.1, kac.out.cell Ga.out.2.1, kac.out.cell Ga.out.2.2⟩)
    have ORb := Lib.hid (ORa.out.keep kac.out)
    have K4b : Kp wc w12 := K4a.trans kac.out
    have hzb := kac.out.size
    have hz4b := K4b.size
    clear s10 s11 L11 M11 N11 kab kac Oa O7 ORa OMa K4a G8 Ga
    go_wp2_with fail
    refine (markBoard_u wc.heap.size _ _ _ _ l m _ _ _ _ _ _ _ _ _ _ 1 _ _ _ lt lr ld _ ORb.out RA.out.R.bt RA.out.R.bk (fun x hx => (RA.out.R.bc x hx).1) SM.out.2 (by omega) w5.heap.size (by omega) I5.out.1 I5.out.2.1 I5.out.2.2.1 I5.out.2.2.2 (by omega) (by omega)).mono ?_
    rintro e13 w13 ⟨kk, rfl, y13, z13, m13⟩
    have c13 : w13.cell? ⟨w6.heap.size, 0, none⟩ = some (.int .i64 T) ∧ w13.cell? ⟨w6.heap.size, 1, none⟩ = some (.int .i64 Z) ∧ w13.cell? ⟨w6.heap.size, 2, none⟩ = some (.slice (some ⟨gub, 0, none⟩) mu mu) := ⟨m13.cell_hi (by omega) s12.2.2.2.2.2.2.2.2.2.2.2.2.2.2.2.2.2.2.2.2.2.2.2.2.2.2.2.1, m13.cell_hi (by omega) s12.2.2.2.2.2.2.2.2.2.2.2.2.2.2.2.2.2.2.2.2.2.2.2.2.2.2.2.2.1, m13.cell_hi (by omega) s12.2.2.2.2.2.2.2.2.2.2.2.2.2.2.2.2.2.2.2.2.2.2.2.2.2.2.2.2.2.1⟩
    have Gc := Lib.hid (show (w13.cell? ⟨w7.heap.size, 0, none⟩ = some (.int .i64 X) ∧ w13.cell? ⟨w7.heap.size, 1, none⟩ = some (.int .i64 Y) ∧ w13.cell? ⟨w7.heap.size, 2, none⟩ = some (.slice A1 nL c1)) from ⟨m13.cell_hi (by omega) Gb.out.1, m13.cell_hi (by omega) Gb.out.2.1, m13.cell_hi (by omega) Gb.out.2.2⟩)
    have K4c : Kp wc w13 := m13.kp K4b (Nat.le_refl _)
    have Oc : Hid (OwnU w13 (w6.heap.size + 1) (.slice A1 nL c1) LL) := Lib.hid (m13.own Ob.out (fun g hg => by
      have h1 := (World.ownsRow.lt Ob.out g hg).1
      omega))
    have OMc : Hid (w13.ownsRow W5.heap.size 67 4 (.slice (some ⟨gub, 0, none⟩) mu mu) mu (cellsU us)) := Lib.hid (by
      have h0 := m13.own OMb.out (fun g hg => by
        have h1 := (World.ownsRow.lt OMb.out g hg).1
        omega)
      rw [HE4.out] at h0
      exact h0)
    have hzc' := m13.1.size
    clear m13 Ob ORb OMb K4b s12 Gb
    go_wp2_with fail
    refine (markState_own T Z _ mu W5.heap.size w6.heap.size kk _ _ (by omega) (by omega) hmu OMc.out (by omega) I6.out).mono ?_
    rintro e14 w14 ⟨rfl, o14, m14⟩
    have K4d : Kp wc w14 := m14.kp K4c (by omega)
    have Od : Hid (OwnU w14 (w6.heap.size + 1) (.slice A1 nL c1) LL) := Lib.hid (m14.own Oc.out (fun g hg => by
      have h1 := (World.ownsRow.lt Oc.out g hg).1
      omega))
    have hk0 : ¬ (kk + 4 * (mu : Int)) < 0 := by omega
    have g14 : (w14.cell? ⟨w7.heap.size, 0, none⟩ = some (.int .i64 X) ∧ w14.cell? ⟨w7.heap.size, 1, none⟩ = some (.int .i64 Y) ∧ w14.cell? ⟨w7.heap.size, 2, none⟩ = some (.slice A1 nL c1)) := ⟨m14.cell_hi (by omega) Gc.out.1, m14.cell_hi (by omega) Gc.out.2.1, m14.cell_hi (by omega) Gc.out.2.2⟩
    have b14 : (w14.cell? ⟨B0, 0, none⟩ = some (.int .i64 X) ∧ w14.cell? ⟨B0, 1, none⟩ = some (.int .i64 Y) ∧ w14.cell? ⟨B0, 2, none⟩ = some (.slice A0 nL c0)) := ⟨K4d.cell CB.out.1, K4d.cell CB.out.2.1, K4d.cell CB.out.2.2⟩
    have hz14 := m14.1.size
    clear m14 o14 Oc OMc K4c c13 Gc
    go_wp2_with fail
    refine (eqState_same X Y _ _ LL _ (StaAt.mk Od.out.rd (by rw [HNL.out]; exact hn6) HIL.out) (WS.out.keep K4d)).mono ?_
    rintro e15 w15 ⟨rfl, k15⟩
    have Oe := Lib.hid ((Od.out.keep k15).row HNL.out)
    have K4e : Kp wc w15 := K4d.trans k15
    have g15 : (w15.cell? ⟨w7.heap.size, 0, none⟩ = some (.int .i64 X) ∧ w15.cell? ⟨w7.heap.size, 1, none⟩ = some (.int .i64 Y) ∧ w15.cell? ⟨w7.heap.size, 2, none⟩ = some (.slice A1 nL c1)) := ⟨k15.cell g14.1, k15.cell g14.2.1, k15.cell g14.2.2⟩
    have hz15 := k15.size
    clear Od K4d k15 g14 b14
    go_wp2_with fail
    refine (markState_own X Y _ nL (w6.heap.size + 1) w7.heap.size 1 _ _ (by omega) (by omega) hn6 Oe.out (by omega) HG7.out).mono ?_
    rintro e16 w16 ⟨rfl, om, m16⟩
    have K4f : Kp wc w16 := m16.kp K4e (by omega)
    have g16 : (w16.cell? ⟨w7.heap.size, 0, none⟩ = some (.int .i64 X) ∧ w16.cell? ⟨w7.heap.size, 1, none⟩ = some (.int .i64 Y) ∧ w16.cell? ⟨w7.heap.size, 2, none⟩ = some (.slice A1 nL c1)) := ⟨m16.cell_hi (Nat.le_refl _) g15.1, m16.cell_hi (Nat.le_refl _) g15.2.1, m16.cell_hi (Nat.le_refl _) g15.2.2⟩
    have OM := Lib.hid om
    have hne : ((1 + 4 * (nL : Int)) != (1 + 4 * (nL : Int))) = false := by simp
    clear om m16 Oe K4e g15
    go_wp2_with fail
    refine (heldState_own X Y _ nL (w6.heap.size + 1) 1 _ (by omega) (by omega) hn6 OM.out).mono ?_
    rintro e17 w17 ⟨rfl, k17⟩
    have OM2 := Lib.hid (ownsRow_keep OM.out k17)
    have K4g : Kp wc w17 := K4f.trans k17
    have g17 := Lib.hid (show (w17.cell? ⟨w7.heap.size, 0, none⟩ = some (.int .i64 X) ∧ w17.cell? ⟨w7.heap.size, 1, none⟩ = some (.int .i64 Y) ∧ w17.cell? ⟨w7.heap.size, 2, none⟩ = some (.slice A1 nL c1)) from ⟨k17.cell g16.1, k17.cell g16.2.1, k17.cell g16.2.2⟩)
    have s17w := keep15k K4g HS4.out
    have K17 : Kp w w17 := s17w.2.2.2.2.2.2.2.2.2.2.2.2.2.2.2
    have s17d : w17.drew.cell? ⟨w.heap.size, 0, none⟩ = some (.slice At nt ct) ∧ w17.drew.cell? ⟨w.heap.size, 1, none⟩ = some (.slice Ak nk ck) ∧ w17.drew.cell? ⟨w.heap.size, 2, none⟩ = some (.int .i64 a) ∧ w17.drew.cell? ⟨w.heap.size, 3, none⟩ = some (.int .i64 b) ∧ w17.drew.cell? ⟨w.heap.size, 4, none⟩ = some (.int .i64 c) ∧ w17.drew.cell? ⟨w.heap.size, 5, none⟩ = some (.int .i64 d) ∧ w17.drew.cell? ⟨w.heap.size, 6, none⟩ = some (.int .i64 e) ∧ w17.drew.cell? ⟨w.heap.size, 7, none⟩ = some (.int .i64 W) ∧ w17.drew.cell? ⟨w.heap.size, 8, none⟩ = some (.int .i64 H) ∧ w17.drew.cell? ⟨w.heap.size, 9, none⟩ = some (x) ∧ w17.drew.cell? ⟨w.heap.size, 10, none⟩ = some (r) ∧ w17.drew.cell? ⟨w.heap.size, 11, none⟩ = some (y) ∧ w17.drew.cell? ⟨w.heap.size + 1, 0, none⟩ = some (.int .i64 T) ∧ w17.drew.cell? ⟨w.heap.size + 1, 1, none⟩ = some (.int .i64 Z) ∧ w17.drew.cell? ⟨w.heap.size + 1, 2, none⟩ = some (u) ∧ Kp w17 w17.drew := ⟨s17w.1, s17w.2.1, s17w.2.2.1, s17w.2.2.2.1, s17w.2.2.2.2.1, s17w.2.2.2.2.2.1, s17w.2.2.2.2.2.2.1, s17w.2.2.2.2.2.2.2.1, s17w.2.2.2.2.2.2.2.2.1, s17w.2.2.2.2.2.2.2.2.2.1, s17w.2.2.2.2.2.2.2.2.2.2.1, s17w.2.2.2.2.2.2.2.2.2.2.2.1, s17w.2.2.2.2.2.2.2.2.2.2.2.2.1, s17w.2.2.2.2.2.2.2.2.2.2.2.2.2.1, s17w.2.2.2.2.2.2.2.2.2.2.2.2.2.2.1, (Kp.refl w17).drew⟩
    clear K4f k17 OM HS4 s17w g16
    go_upto_region 31 with (fail)
    go_cut [19, 20] (fun s19 s20 wx => ∃ (B1 : Nat) (A2 : Option Addr) (c2 : Nat), s19 = .pointer (some ⟨B1, 0, none⟩) ∧ s20 = .bool B ∧ LivS wx B1 (.int .i64 X) (.int .i64 Y) (.slice A2 nL c2) ∧ StaAt wx (.slice A2 nL c2) LL ∧ Kp w17 wx)
    case first =>
      refine wp_region_held_drew (S := (fun w' => w'.cell? ⟨w.heap.size, 0, none⟩ = some (.slice At nt ct) ∧ w'.cell? ⟨w.heap.size, 1, none⟩ = some (.slice Ak nk ck) ∧ w'.cell? ⟨w.heap.size, 2, none⟩ = some (.int .i64 a) ∧ w'.cell? ⟨w.heap.size, 3, none⟩ = some (.int .i64 b) ∧ w'.cell? ⟨w.heap.size, 4, none⟩ = some (.int .i64 c) ∧ w'.cell? ⟨w.heap.size, 5, none⟩ = some (.int .i64 d) ∧ w'.cell? ⟨w.heap.size, 6, none⟩ = some (.int .i64 e) ∧ w'.cell? ⟨w.heap.size, 7, none⟩ = some (.int .i64 W) ∧ w'.cell? ⟨w.heap.size, 8, none⟩ = some (.int .i64 H) ∧ w'.cell? ⟨w.heap.size, 9, none⟩ = some (x) ∧ w'.cell? ⟨w.heap.size, 10, none⟩ = some (r) ∧ w'.cell? ⟨w.heap.size, 11, none⟩ = some (y) ∧ w'.cell? ⟨w.heap.size + 1, 0, none⟩ = some (.int .i64 T) ∧ w'.cell? ⟨w.heap.size + 1, 1, none⟩ = some (.int .i64 Z) ∧ w'.cell? ⟨w.heap.size + 1, 2, none⟩ = some (u) ∧ Kp w17 w')) (by kernel_rfl) ?_ (fun hHeld => ?_)
      · assumption
      generalize w17.drew = V at *
      refine wpAnyH_take (i := 0) (oi := ⟨some 103, _, _, _, _, _⟩) (v := ?_) rfl (by kernel_rfl) (by kernel_rfl) (by kernel_rfl) (fun _ _ _ h => h) (Or.inl ⟨by rfl, ?_⟩) (by assumption) ?_
      rotate_left
      · intro w hSw; (try dsimp only at hSw); go_simp; (all_goals with_reducible rfl)
      simp only [Act.put, List.setIfInBounds_toArray, List.set_cons_zero, List.set_cons_succ]
      refine wpAnyH_take (i := 2) (oi := ⟨some 105, _, _, _, _, _⟩) (v := ?_) rfl (by kernel_rfl) (by kernel_rfl) (by kernel_rfl) (fun _ _ _ h => h) (Or.inl ⟨by rfl, ?_⟩) (by assumption) ?_
      rotate_left
      · intro w hSw; (try dsimp only at hSw); go_simp; (all_goals with_reducible rfl)
      simp only [Act.put, List.setIfInBounds_toArray, List.set_cons_zero, List.set_cons_succ]
      refine wpAnyH_take (i := 4) (oi := ⟨some 107, _, _, _, _, _⟩) (v := ?_) rfl (by kernel_rfl) (by kernel_rfl) (by kernel_rfl) (fun _ _ _ h => h) (Or.inl ⟨by rfl, ?_⟩) (by assumption) ?_
      rotate_left
      · intro w hSw; (try dsimp only at hSw); go_simp; (all_goals with_reducible rfl)
      simp only [Act.put, List.setIfInBounds_toArray, List.set_cons_zero, List.set_cons_succ]
      refine wpAnyH_take (i := 5) (oi := ⟨some 108, _, _, _, _, _⟩) (v := ?_) rfl (by kernel_rfl) (by kernel_rfl) (by kernel_rfl) (fun _ _ _ h => h) (Or.inl ⟨by rfl, ?_⟩) (by assumption) ?_
      rotate_left
      · intro w hSw; (try dsimp only at hSw); go_simp; (all_goals with_reducible rfl)
      simp only [Act.put, List.setIfInBounds_toArray, List.set_cons_zero, List.set_cons_succ]
      refine wpAnyH_ready (rs := [1, 10]) (by kernel_rfl) (by simp) ?_
      refine (AllReadyH.cons (o := ⟨some 104, _, _, _, _, _⟩) rfl (fun K hK => ?_) (AllReadyH.cons (o := ⟨some 19, _, _, _, _, _⟩) rfl (fun K hK => ?_) AllReadyH.nil))
      · go_simp
        refine (toBoard_any _ _ _ _ _ _ l m _ _ _ _ _ _ _ _ _ _ lt lr ld mt mr md _ (RA.out.keep (K17.trans hHeld.2.2.2.2.2.2.2.2.2.2.2.2.2.2.2)) HE1.out HE2.out HE3.out).mono ?_
        rintro e3 w3 ⟨g1a, g2a, csa, ysa, zsa, A1a, c1a, A2a, c2a, A3a, c3a, rfl, o3, k3⟩
        have hS3 := keep15k k3 hHeld
        have R3 := Lib.hid (o3.at RA.out)
        try (have L10 := livS_keep k3 L10)
        go_wp2_with fail
        refine hK.out _ _ ?_ (fun hHeld => ?_)
        · (try dsimp only); (assumption)
        clear hK K
        try simp only [Act.put, List.setIfInBounds_toArray, List.set_cons_zero, List.set_cons_succ]
        refine wpAnyH_ready (rs := [3, 10]) (by kernel_rfl) (by simp) ?_
        refine (AllReadyH.cons (o := ⟨some 106, _, _, _, _, _⟩) rfl (fun K hK => ?_) (AllReadyH.cons (o := ⟨some 19, _, _, _, _, _⟩) rfl (fun K hK => ?_) AllReadyH.nil))
        · go_simp
          refine (toState_any T Z _ us mu _ (LA.out.keep (K17.trans hHeld.2.2.2.2.2.2.2.2.2.2.2.2.2.2.2)) HE4.out).mono ?_
          rintro e3' w3' ⟨gua, rfl, o3', k3'⟩
          have hS3' := keep15k k3' hHeld
          have B3 := Lib.hid (R3.out.keep k3')
          have S3 := Lib.hid (o3'.sta LA.out)
          try (have L10 := livS_keep k3' L10)
          go_wp2_with fail
          refine hK.out _ _ ?_ (fun hHeld => ?_)
          · (try dsimp only); (assumption)
          clear hK K
          try simp only [Act.put, List.setIfInBounds_toArray, List.set_cons_zero, List.set_cons_succ]
          refine wpAnyH_ready (rs := [6, 10]) (by kernel_rfl) (by simp) ?_
          refine (AllReadyH.cons (o := ⟨some 109, _, _, _, _, _⟩) rfl (fun K hK => ?_) (AllReadyH.cons (o := ⟨some 19, _, _, _, _, _⟩) rfl (fun K hK => ?_) AllReadyH.nil))
          · go_simp
            try (have hzB := cell_lt L10.1.1)
            refine (CI.out _ _ _ _ _ _ _ _ _ _ _ B3.out S3.out (HS0.out.keep (K17.trans hHeld.2.2.2.2.2.2.2.2.2.2.2.2.2.2.2)) (HS1.out.keep (K17.trans hHeld.2.2.2.2.2.2.2.2.2.2.2.2.2.2.2)) (HS2.out.keep (K17.trans hHeld.2.2.2.2.2.2.2.2.2.2.2.2.2.2.2)) (HS3.out.keep (K17.trans hHeld.2.2.2.2.2.2.2.2.2.2.2.2.2.2.2))).mono ?_
            rintro e4 w4 ⟨A0', c0', rfl, o4, k4⟩
            have hS4 := keep15k k4 hHeld
            have W3 := Lib.hid o4
            have W3o := Lib.hid o4
            try (have NB := Lib.hid (o4.not hzB))
            try (have L10 := livS_keep k4 L10)
            go_wp2_with fail
            refine hK.out _ _ ?_ (fun hHeld => ?_)
            · (try dsimp only); (assumption)
            clear hK K
            try simp only [Act.put, List.setIfInBounds_toArray, List.set_cons_zero, List.set_cons_succ]
            refine wpAnyH_take (i := 7) (oi := ⟨some 102, _, _, _, _, _⟩) (v := ?_) rfl (by kernel_rfl) (by kernel_rfl) (by kernel_rfl) (fun _ _ _ h => h) (Or.inl ⟨by rfl, ?_⟩) (by assumption) ?_
            rotate_left
            · intro w hSw; (try dsimp only at hSw); go_simp; (all_goals with_reducible rfl)
            simp only [Act.put, List.setIfInBounds_toArray, List.set_cons_zero, List.set_cons_succ]
            refine wpAnyH_take (i := 8) (oi := ⟨some 110, _, _, _, _, _⟩) (v := ?_) rfl (by kernel_rfl) (by kernel_rfl) (by kernel_rfl) (fun _ _ _ h => h) (Or.inl ⟨by rfl, ?_⟩) (by assumption) ?_
            rotate_left
            · intro w hSw; (try dsimp only at hSw); go_simp; (all_goals with_reducible rfl)
            simp only [Act.put, List.setIfInBounds_toArray, List.set_cons_zero, List.set_cons_succ]
            refine wpAnyH_take (i := 9) (oi := ⟨some 111, _, _, _, _, _⟩) (v := ?_) rfl (by kernel_rfl) (by kernel_rfl) (by kernel_rfl) (fun _ _ _ h => h) (Or.inl ⟨by rfl, ?_⟩) (by assumption) ?_
            rotate_left
            · intro w hSw; (try dsimp only at hSw); go_simp; (all_goals with_reducible rfl)
            simp only [Act.put, List.setIfInBounds_toArray, List.set_cons_zero, List.set_cons_succ]
            refine wpAnyH_ready (rs := [10]) (by kernel_rfl) (by simp) ?_
            refine (AllReadyH.cons (o := ⟨some 19, _, _, _, _, _⟩) rfl (fun K hK => ?_) AllReadyH.nil)
            go_simp
            go_wp2_with fail
            have nz := liv_new hHeld
            have L10 := nz.1
            have hSa := keep15k nz.2 hHeld
            have hn0 := Nat.ne_of_gt (cell_lt hHeld.1)
            have hn1 := Nat.ne_of_gt (cell_lt hHeld.2.2.2.2.2.2.2.2.2.2.2.2.1)
            have hn2 := hHeld.2.2.2.2.2.2.2.2.2.2.2.2.2.2.2.size
            try (have R3 := Lib.hid (R3.out.keep nz.2))
            try (have B3 := Lib.hid (B3.out.keep nz.2))
            try (have S3 := Lib.hid (S3.out.keep nz.2))
            try (have W3 := Lib.hid (W3.out.keep nz.2))
            refine hK.out _ _ ?_ (fun hHeld => ?_)
            · (try dsimp only); (assumption)
            clear hK K
            try simp only [Act.put, List.setIfInBounds_toArray, List.set_cons_zero, List.set_cons_succ]
            refine wpAnyH_ready (rs := [11]) (by kernel_rfl) (by simp) ?_
            refine (AllReadyH.cons (o := ⟨none, _, _, _, _, _⟩) rfl (fun K hK => ?_) AllReadyH.nil)
            go_simp
            go_wp2_with fail
            refine hK.out _ _ ?_ (fun hHeld => ?_)
            · (try dsimp only); (first | exact keep15k ((Kp.refl _).alloc _) hS4 | exact ⟨by simp [go_sem, *], by simp [go_sem, *], by simp [go_sem, *], by simp [go_sem, *], by simp [go_sem, *], by simp [go_sem, *], by simp [go_sem, *], by simp [go_sem, *], by simp [go_sem, *], by simp [go_sem, *], by simp [go_sem, *], by simp [go_sem, *], by simp [go_sem, *], by simp [go_sem, *], by simp [go_sem, *], ((hHeld.2.2.2.2.2.2.2.2.2.2.2.2.2.2.2.setCell (by first | omega | (simp; omega)) _).setCell (by first | omega | (simp; omega)) _).setCell (by first | omega | (simp; omega)) _⟩)
            clear hK K
            try simp only [Act.put, List.setIfInBounds_toArray, List.set_cons_zero, List.set_cons_succ]
            refine wpAnyH_take (i := 12) (oi := ⟨some 20, _, _, _, _, _⟩) (v := ?_) rfl (by kernel_rfl) (by kernel_rfl) (by kernel_rfl) (fun _ _ _ h => h) (Or.inl ⟨by rfl, ?_⟩) (by assumption) ?_
            rotate_left
            · intro w hSw; (try dsimp only at hSw); go_simp; (all_goals with_reducible rfl)
            simp only [Act.put, List.setIfInBounds_toArray, List.set_cons_zero, List.set_cons_succ]
            refine wpAnyH_done (by kernel_rfl) ?_ _
            go_wp2_with fail
            go_meet
            exact ⟨_, A0', c0', rfl, rfl, ⟨by first | (simp [go_sem]; done) | simp [go_sem, *], by first | (simp [go_sem]; done) | simp [go_sem, *], by first | (simp [go_sem]; done) | simp [go_sem, *]⟩, StaAt.mk (by first | exact (W3o.out.keep ((Kp.refl _).alloc _)).rd | exact (((W3.out.far NB.out _).far NB.out _).far NB.out _).rd) (by rw [HNL.out]; exact hn6) HIL.out, hHeld.2.2.2.2.2.2.2.2.2.2.2.2.2.2.2⟩
          · go_simp
            go_wp2_with fail
            have nz := liv_new hHeld
            have L10 := nz.1
            have hSa := keep15k nz.2 hHeld
            have hn0 := Nat.ne_of_gt (cell_lt hHeld.1)
            have hn1 := Nat.ne_of_gt (cell_lt hHeld.2.2.2.2.2.2.2.2.2.2.2.2.1)
            have hn2 := hHeld.2.2.2.2.2.2.2.2.2.2.2.2.2.2.2.size
            try (have R3 := Lib.hid (R3.out.keep nz.2))
            try (have B3 := Lib.hid (B3.out.keep nz.2))
            try (have S3 := Lib.hid (S3.out.keep nz.2))
            try (have W3 := Lib.hid (W3.out.keep nz.2))
            refine hK.out _ _ ?_ (fun hHeld => ?_)
            · (try dsimp only); (assumption)
            clear hK K
            try simp only [Act.put, List.setIfInBounds_toArray, List.set_cons_zero, List.set_cons_succ]
            refine wpAnyH_ready (rs := [6]) (by kernel_rfl) (by simp) ?_
            refine (AllReadyH.cons (o := ⟨some 109, _, _, _, _, _⟩) rfl (fun K hK => ?_) AllReadyH.nil)
            go_simp
            try (have hzB := cell_lt L10.1.1)
            refine (CI.out _ _ _ _ _ _ _ _ _ _ _ B3.out S3.out (HS0.out.keep (K17.trans hHeld.2.2.2.2.2.2.2.2.2.2.2.2.2.2.2)) (HS1.out.keep (K17.trans hHeld.2.2.2.2.2.2.2.2.2.2.2.2.2.2.2)) (HS2.out.keep (K17.trans hHeld.2.2.2.2.2.2.2.2.2.2.2.2.2.2.2)) (HS3.out.keep (K17.trans hHeld.2.2.2.2.2.2.2.2.2.2.2.2.2.2.2))).mono ?_
            rintro e4 w4 ⟨A0', c0', rfl, o4, k4⟩
            have hS4 := keep15k k4 hHeld
            have W3 := Lib.hid o4
            have W3o := Lib.hid o4
            try (have NB := Lib.hid (o4.not hzB))
            try (have L10 := livS_keep k4 L10)
            go_wp2_with fail
            refine hK.out _ _ ?_ (fun hHeld => ?_)
            · (try dsimp only); (assumption)
            clear hK K
            try simp only [Act.put, List.setIfInBounds_toArray, List.set_cons_zero, List.set_cons_succ]
            refine wpAnyH_take (i := 7) (oi := ⟨some 102, _, _, _, _, _⟩) (v := ?_) rfl (by kernel_rfl) (by kernel_rfl) (by kernel_rfl) (fun _ _ _ h => h) (Or.inl ⟨by rfl, ?_⟩) (by assumption) ?_
            rotate_left
            · intro w hSw; (try dsimp only at hSw); go_simp; (all_goals with_reducible rfl)
            simp only [Act.put, List.setIfInBounds_toArray, List.set_cons_zero, List.set_cons_succ]
            refine wpAnyH_take (i := 8) (oi := ⟨some 110, _, _, _, _, _⟩) (v := ?_) rfl (by kernel_rfl) (by kernel_rfl) (by kernel_rfl) (fun _ _ _ h => h) (Or.inl ⟨by rfl, ?_⟩) (by assumption) ?_
            rotate_left
            · intro w hSw; (try dsimp only at hSw); go_simp; (all_goals with_reducible rfl)
            simp only [Act.put, List.setIfInBounds_toArray, List.set_cons_zero, List.set_cons_succ]
            refine wpAnyH_take (i := 9) (oi := ⟨some 111, _, _, _, _, _⟩) (v := ?_) rfl (by kernel_rfl) (by kernel_rfl) (by kernel_rfl) (fun _ _ _ h => h) (Or.inl ⟨by rfl, ?_⟩) (by assumption) ?_
            rotate_left
            · intro w hSw; (try dsimp only at hSw); go_simp; (all_goals with_reducible rfl)
            simp only [Act.put, List.setIfInBounds_toArray, List.set_cons_zero, List.set_cons_succ]
            refine wpAnyH_ready (rs := [11]) (by kernel_rfl) (by simp) ?_
            refine (AllReadyH.cons (o := ⟨none, _, _, _, _, _⟩) rfl (fun K hK => ?_) AllReadyH.nil)
            go_simp
            go_wp2_with fail
            refine hK.out _ _ ?_ (fun hHeld => ?_)
            · (try dsimp only); (first | exact keep15k ((Kp.refl _).alloc _) hS4 | exact ⟨by simp [go_sem, *], by simp [go_sem, *], by simp [go_sem, *], by simp [go_sem, *], by simp [go_sem, *], by simp [go_sem, *], by simp [go_sem, *], by simp [go_sem, *], by simp [go_sem, *], by simp [go_sem, *], by simp [go_sem, *], by simp [go_sem, *], by simp [go_sem, *], by simp [go_sem, *], by simp [go_sem, *], ((hHeld.2.2.2.2.2.2.2.2.2.2.2.2.2.2.2.setCell (by first | omega | (simp; omega)) _).setCell (by first | omega | (simp; omega)) _).setCell (by first | omega | (simp; omega)) _⟩)
            clear hK K
            try simp only [Act.put, List.setIfInBounds_toArray, List.set_cons_zero, List.set_cons_succ]
            refine wpAnyH_take (i := 12) (oi := ⟨some 20, _, _, _, _, _⟩) (v := ?_) rfl (by kernel_rfl) (by kernel_rfl) (by kernel_rfl) (fun _ _ _ h => h) (Or.inl ⟨by rfl, ?_⟩) (by assumption) ?_
            rotate_left
            · intro w hSw; (try dsimp only at hSw); go_simp; (all_goals with_reducible rfl)
            simp only [Act.put, List.setIfInBounds_toArray, List.set_cons_zero, List.set_cons_succ]
            refine wpAnyH_done (by kernel_rfl) ?_ _
            go_wp2_with fail
            go_meet
            exact ⟨_, A0', c0', rfl, rfl, ⟨by first | (simp [go_sem]; done) | simp [go_sem, *], by first | (simp [go_sem]; done) | simp [go_sem, *], by first | (simp [go_sem]; done) | simp [go_sem, *]⟩, StaAt.mk (by first | exact (W3o.out.keep ((Kp.refl _).alloc _)).rd | exact (((W3.out.far NB.out _).far NB.out _).far NB.out _).rd) (by rw [HNL.out]; exact hn6) HIL.out, hHeld.2.2.2.2.2.2.2.2.2.2.2.2.2.2.2⟩
        · go_simp
          go_wp2_with fail
          have nz := liv_new hHeld
          have L10 := nz.1
          have hSa := keep15k nz.2 hHeld
          have hn0 := Nat.ne_of_gt (cell_lt hHeld.1)
          have hn1 := Nat.ne_of_gt (cell_lt hHeld.2.2.2.2.2.2.2.2.2.2.2.2.1)
          have hn2 := hHeld.2.2.2.2.2.2.2.2.2.2.2.2.2.2.2.size
          try (have R3 := Lib.hid (R3.out.keep nz.2))
          try (have B3 := Lib.hid (B3.out.keep nz.2))
          try (have S3 := Lib.hid (S3.out.keep nz.2))
          try (have W3 := Lib.hid (W3.out.keep nz.2))
          refine hK.out _ _ ?_ (fun hHeld => ?_)
          · (try dsimp only); (assumption)
          clear hK K
          try simp only [Act.put, List.setIfInBounds_toArray, List.set_cons_zero, List.set_cons_succ]
          refine wpAnyH_ready (rs := [3]) (by kernel_rfl) (by simp) ?_
          refine (AllReadyH.cons (o := ⟨some 106, _, _, _, _, _⟩) rfl (fun K hK => ?_) AllReadyH.nil)
          go_simp
          refine (toState_any T Z _ us mu _ (LA.out.keep (K17.trans hHeld.2.2.2.2.2.2.2.2.2.2.2.2.2.2.2)) HE4.out).mono ?_
          rintro e3' w3' ⟨gua, rfl, o3', k3'⟩
          have hS3' := keep15k k3' hHeld
          have B3 := Lib.hid (R3.out.keep k3')
          have S3 := Lib.hid (o3'.sta LA.out)
          try (have L10 := livS_keep k3' L10)
          go_wp2_with fail
          refine hK.out _ _ ?_ (fun hHeld => ?_)
          · (try dsimp only); (assumption)
          clear hK K
          try simp only [Act.put, List.setIfInBounds_toArray, List.set_cons_zero, List.set_cons_succ]
          refine wpAnyH_ready (rs := [6]) (by kernel_rfl) (by simp) ?_
          refine (AllReadyH.cons (o := ⟨some 109, _, _, _, _, _⟩) rfl (fun K hK => ?_) AllReadyH.nil)
          go_simp
          try (have hzB := cell_lt L10.1.1)
          refine (CI.out _ _ _ _ _ _ _ _ _ _ _ B3.out S3.out (HS0.out.keep (K17.trans hHeld.2.2.2.2.2.2.2.2.2.2.2.2.2.2.2)) (HS1.out.keep (K17.trans hHeld.2.2.2.2.2.2.2.2.2.2.2.2.2.2.2)) (HS2.out.keep (K17.trans hHeld.2.2.2.2.2.2.2.2.2.2.2.2.2.2.2)) (HS3.out.keep (K17.trans hHeld.2.2.2.2.2.2.2.2.2.2.2.2.2.2.2))).mono ?_
          rintro e4 w4 ⟨A0', c0', rfl, o4, k4⟩
          have hS4 := keep15k k4 hHeld
          have W3 := Lib.hid o4
          have W3o := Lib.hid o4
          try (have NB := Lib.hid (o4.not hzB))
          try (have L10 := livS_keep k4 L10)
          go_wp2_with fail
          refine hK.out _ _ ?_ (fun hHeld => ?_)
          · (try dsimp only); (assumption)
          clear hK K
          try simp only [Act.put, List.setIfInBounds_toArray, List.set_cons_zero, List.set_cons_succ]
          refine wpAnyH_take (i := 7) (oi := ⟨some 102, _, _, _, _, _⟩) (v := ?_) rfl (by kernel_rfl) (by kernel_rfl) (by kernel_rfl) (fun _ _ _ h => h) (Or.inl ⟨by rfl, ?_⟩) (by assumption) ?_
          rotate_left
          · intro w hSw; (try dsimp only at hSw); go_simp; (all_goals with_reducible rfl)
          simp only [Act.put, List.setIfInBounds_toArray, List.set_cons_zero, List.set_cons_succ]
          refine wpAnyH_take (i := 8) (oi := ⟨some 110, _, _, _, _, _⟩) (v := ?_) rfl (by kernel_rfl) (by kernel_rfl) (by kernel_rfl) (fun _ _ _ h => h) (Or.inl ⟨by rfl, ?_⟩) (by assumption) ?_
          rotate_left
          · intro w hSw; (try dsimp only at hSw); go_simp; (all_goals with_reducible rfl)
          simp only [Act.put, List.setIfInBounds_toArray, List.set_cons_zero, List.set_cons_succ]
          refine wpAnyH_take (i := 9) (oi := ⟨some 111, _, _, _, _, _⟩) (v := ?_) rfl (by kernel_rfl) (by kernel_rfl) (by kernel_rfl) (fun _ _ _ h => h) (Or.inl ⟨by rfl, ?_⟩) (by assumption) ?_
          rotate_left
          · intro w hSw; (try dsimp only at hSw); go_simp; (all_goals with_reducible rfl)
          simp only [Act.put, List.setIfInBounds_toArray, List.set_cons_zero, List.set_cons_succ]
          refine wpAnyH_ready (rs := [11]) (by kernel_rfl) (by simp) ?_
          refine (AllReadyH.cons (o := ⟨none, _, _, _, _, _⟩) rfl (fun K hK => ?_) AllReadyH.nil)
          go_simp
          go_wp2_with fail
          refine hK.out _ _ ?_ (fun hHeld => ?_)
          · (try dsimp only); (first | exact keep15k ((Kp.refl _).alloc _) hS4 | exact ⟨by simp [go_sem, *], by simp [go_sem, *], by simp [go_sem, *], by simp [go_sem, *], by simp [go_sem, *], by simp [go_sem, *], by simp [go_sem, *], by simp [go_sem, *], by simp [go_sem, *], by simp [go_sem, *], by simp [go_sem, *], by simp [go_sem, *], by simp [go_sem, *], by simp [go_sem, *], by simp [go_sem, *], ((hHeld.2.2.2.2.2.2.2.2.2.2.2.2.2.2.2.setCell (by first | omega | (simp; omega)) _).setCell (by first | omega | (simp; omega)) _).setCell (by first | omega | (simp; omega)) _⟩)
          clear hK K
          try simp only [Act.put, List.setIfInBounds_toArray, List.set_cons_zero, List.set_cons_succ]
          refine wpAnyH_take (i := 12) (oi := ⟨some 20, _, _, _, _, _⟩) (v := ?_) rfl (by kernel_rfl) (by kernel_rfl) (by kernel_rfl) (fun _ _ _ h => h) (Or.inl ⟨by rfl, ?_⟩) (by assumption) ?_
          rotate_left
          · intro w hSw; (try dsimp only at hSw); go_simp; (all_goals with_reducible rfl)
          simp only [Act.put, List.setIfInBounds_toArray, List.set_cons_zero, List.set_cons_succ]
          refine wpAnyH_done (by kernel_rfl) ?_ _
          go_wp2_with fail
          go_meet
          exact ⟨_, A0', c0', rfl, rfl, ⟨by first | (simp [go_sem]; done) | simp [go_sem, *], by first | (simp [go_sem]; done) | simp [go_sem, *], by first | (simp [go_sem]; done) | simp [go_sem, *]⟩, StaAt.mk (by first | exact (W3o.out.keep ((Kp.refl _).alloc _)).rd | exact (((W3.out.far NB.out _).far NB.out _).far NB.out _).rd) (by rw [HNL.out]; exact hn6) HIL.out, hHeld.2.2.2.2.2.2.2.2.2.2.2.2.2.2.2⟩
      · go_simp
        go_wp2_with fail
        have nz := liv_new hHeld
        have L10 := nz.1
        have hSa := keep15k nz.2 hHeld
        have hn0 := Nat.ne_of_gt (cell_lt hHeld.1)
        have hn1 := Nat.ne_of_gt (cell_lt hHeld.2.2.2.2.2.2.2.2.2.2.2.2.1)
        have hn2 := hHeld.2.2.2.2.2.2.2.2.2.2.2.2.2.2.2.size
        try (have R3 := Lib.hid (R3.out.keep nz.2))
        try (have B3 := Lib.hid (B3.out.keep nz.2))
        try (have S3 := Lib.hid (S3.out.keep nz.2))
        try (have W3 := Lib.hid (W3.out.keep nz.2))
        refine hK.out _ _ ?_ (fun hHeld => ?_)
        · (try dsimp only); (assumption)
        clear hK K
        try simp only [Act.put, List.setIfInBounds_toArray, List.set_cons_zero, List.set_cons_succ]
        refine wpAnyH_ready (rs := [1]) (by kernel_rfl) (by simp) ?_
        refine (AllReadyH.cons (o := ⟨some 104, _, _, _, _, _⟩) rfl (fun K hK => ?_) AllReadyH.nil)
        go_simp
        refine (toBoard_any _ _ _ _ _ _ l m _ _ _ _ _ _ _ _ _ _ lt lr ld mt mr md _ (RA.out.keep (K17.trans hHeld.2.2.2.2.2.2.2.2.2.2.2.2.2.2.2)) HE1.out HE2.out HE3.out).mono ?_
        rintro e3 w3 ⟨g1a, g2a, csa, ysa, zsa, A1a, c1a, A2a, c2a, A3a, c3a, rfl, o3, k3⟩
        have hS3 := keep15k k3 hHeld
        have R3 := Lib.hid (o3.at RA.out)
        try (have L10 := livS_keep k3 L10)
        go_wp2_with fail
        refine hK.out _ _ ?_ (fun hHeld => ?_)
        · (try dsimp only); (assumption)
        clear hK K
        try simp only [Act.put, List.setIfInBounds_toArray, List.set_cons_zero, List.set_cons_succ]
        refine wpAnyH_ready (rs := [3]) (by kernel_rfl) (by simp) ?_
        refine (AllReadyH.cons (o := ⟨some 106, _, _, _, _, _⟩) rfl (fun K hK => ?_) AllReadyH.nil)
        go_simp
        refine (toState_any T Z _ us mu _ (LA.out.keep (K17.trans hHeld.2.2.2.2.2.2.2.2.2.2.2.2.2.2.2)) HE4.out).mono ?_
        rintro e3' w3' ⟨gua, rfl, o3', k3'⟩
        have hS3' := keep15k k3' hHeld
        have B3 := Lib.hid (R3.out.keep k3')
        have S3 := Lib.hid (o3'.sta LA.out)
        try (have L10 := livS_keep k3' L10)
        go_wp2_with fail
        refine hK.out _ _ ?_ (fun hHeld => ?_)
        · (try dsimp only); (assumption)
        clear hK K
        try simp only [Act.put, List.setIfInBounds_toArray, List.set_cons_zero, List.set_cons_succ]
        refine wpAnyH_ready (rs := [6]) (by kernel_rfl) (by simp) ?_
        refine (AllReadyH.cons (o := ⟨some 109, _, _, _, _, _⟩) rfl (fun K hK => ?_) AllReadyH.nil)
        go_simp
        try (have hzB := cell_lt L10.1.1)
        refine (CI.out _ _ _ _ _ _ _ _ _ _ _ B3.out S3.out (HS0.out.keep (K17.trans hHeld.2.2.2.2.2.2.2.2.2.2.2.2.2.2.2)) (HS1.out.keep (K17.trans hHeld.2.2.2.2.2.2.2.2.2.2.2.2.2.2.2)) (HS2.out.keep (K17.trans hHeld.2.2.2.2.2.2.2.2.2.2.2.2.2.2.2)) (HS3.out.keep (K17.trans hHeld.2.2.2.2.2.2.2.2.2.2.2.2.2.2.2))).mono ?_
        rintro e4 w4 ⟨A0', c0', rfl, o4, k4⟩
        have hS4 := keep15k k4 hHeld
        have W3 := Lib.hid o4
        have W3o := Lib.hid o4
        try (have NB := Lib.hid (o4.not hzB))
        try (have L10 := livS_keep k4 L10)
        go_wp2_with fail
        refine hK.out _ _ ?_ (fun hHeld => ?_)
        · (try dsimp only); (assumption)
        clear hK K
        try simp only [Act.put, List.setIfInBounds_toArray, List.set_cons_zero, List.set_cons_succ]
        refine wpAnyH_take (i := 7) (oi := ⟨some 102, _, _, _, _, _⟩) (v := ?_) rfl (by kernel_rfl) (by kernel_rfl) (by kernel_rfl) (fun _ _ _ h => h) (Or.inl ⟨by rfl, ?_⟩) (by assumption) ?_
        rotate_left
        · intro w hSw; (try dsimp only at hSw); go_simp; (all_goals with_reducible rfl)
        simp only [Act.put, List.setIfInBounds_toArray, List.set_cons_zero, List.set_cons_succ]
        refine wpAnyH_take (i := 8) (oi := ⟨some 110, _, _, _, _, _⟩) (v := ?_) rfl (by kernel_rfl) (by kernel_rfl) (by kernel_rfl) (fun _ _ _ h => h) (Or.inl ⟨by rfl, ?_⟩) (by assumption) ?_
        rotate_left
        · intro w hSw; (try dsimp only at hSw); go_simp; (all_goals with_reducible rfl)
        simp only [Act.put, List.setIfInBounds_toArray, List.set_cons_zero, List.set_cons_succ]
        refine wpAnyH_take (i := 9) (oi := ⟨some 111, _, _, _, _, _⟩) (v := ?_) rfl (by kernel_rfl) (by kernel_rfl) (by kernel_rfl) (fun _ _ _ h => h) (Or.inl ⟨by rfl, ?_⟩) (by assumption) ?_
        rotate_left
        · intro w hSw; (try dsimp only at hSw); go_simp; (all_goals with_reducible rfl)
        simp only [Act.put, List.setIfInBounds_toArray, List.set_cons_zero, List.set_cons_succ]
        refine wpAnyH_ready (rs := [11]) (by kernel_rfl) (by simp) ?_
        refine (AllReadyH.cons (o := ⟨none, _, _, _, _, _⟩) rfl (fun K hK => ?_) AllReadyH.nil)
        go_simp
        go_wp2_with fail
        refine hK.out _ _ ?_ (fun hHeld => ?_)
        · (try dsimp only); (first | exact keep15k ((Kp.refl _).alloc _) hS4 | exact ⟨by simp [go_sem, *], by simp [go_sem, *], by simp [go_sem, *], by simp [go_sem, *], by simp [go_sem, *], by simp [go_sem, *], by simp [go_sem, *], by simp [go_sem, *], by simp [go_sem, *], by simp [go_sem, *], by simp [go_sem, *], by simp [go_sem, *], by simp [go_sem, *], by simp [go_sem, *], by simp [go_sem, *], ((hHeld.2.2.2.2.2.2.2.2.2.2.2.2.2.2.2.setCell (by first | omega | (simp; omega)) _).setCell (by first | omega | (simp; omega)) _).setCell (by first | omega | (simp; omega)) _⟩)
        clear hK K
        try simp only [Act.put, List.setIfInBounds_toArray, List.set_cons_zero, List.set_cons_succ]
        refine wpAnyH_take (i := 12) (oi := ⟨some 20, _, _, _, _, _⟩) (v := ?_) rfl (by kernel_rfl) (by kernel_rfl) (by kernel_rfl) (fun _ _ _ h => h) (Or.inl ⟨by rfl, ?_⟩) (by assumption) ?_
        rotate_left
        · intro w hSw; (try dsimp only at hSw); go_simp; (all_goals with_reducible rfl)
        simp only [Act.put, List.setIfInBounds_toArray, List.set_cons_zero, List.set_cons_succ]
        refine wpAnyH_done (by kernel_rfl) ?_ _
        go_wp2_with fail
        go_meet
        exact ⟨_, A0', c0', rfl, rfl, ⟨by first | (simp [go_sem]; done) | simp [go_sem, *], by first | (simp [go_sem]; done) | simp [go_sem, *], by first | (simp [go_sem]; done) | simp [go_sem, *]⟩, StaAt.mk (by first | exact (W3o.out.keep ((Kp.refl _).alloc _)).rd | exact (((W3.out.far NB.out _).far NB.out _).far NB.out _).rd) (by rw [HNL.out]; exact hn6) HIL.out, hHeld.2.2.2.2.2.2.2.2.2.2.2.2.2.2.2⟩
    case rest =>
      obtain ⟨B1, A2, c2, rfl, rfl, LB1, W1S, K18⟩ := hcut
      have h18 : (wc.cell? ⟨B1, 0, none⟩ = some (.int .i64 X) ∧ wc.cell? ⟨B1, 1, none⟩ = some (.int .i64 Y) ∧ wc.cell? ⟨B1, 2, none⟩ = some (.slice A2 nL c2)) := ⟨LB1.1.1, LB1.2.1.1, LB1.2.2.1⟩
      have K4h := K4g.trans K18
      have b18 : (wc.cell? ⟨B0, 0, none⟩ = some (.int .i64 X) ∧ wc.cell? ⟨B0, 1, none⟩ = some (.int .i64 Y) ∧ wc.cell? ⟨B0, 2, none⟩ = some (.slice A0 nL c0)) := ⟨K4h.cell CB.out.1, K4h.cell CB.out.2.1, K4h.cell CB.out.2.2⟩
      have W1H := Lib.hid W1S
      have g18 := Lib.hid (show (wc.cell? ⟨w7.heap.size, 0, none⟩ = some (.int .i64 X) ∧ wc.cell? ⟨w7.heap.size, 1, none⟩ = some (.int .i64 Y) ∧ wc.cell? ⟨w7.heap.size, 2, none⟩ = some (.slice A1 nL c1)) from ⟨K18.cell g17.out.1, K18.cell g17.out.2.1, K18.cell g17.out.2.2⟩)
      have OM3 := Lib.hid (ownsRow_keep OM2.out K18)
      have K18w := K17.trans K18
      clear LB1 W1S K18 OM2 g17 s17d
      go_wp2_with fail
      refine (eqState_same X Y _ _ LL _ W1H.out (WS.out.keep K4h)).mono ?_
      rintro e19 w19 ⟨rfl, k19⟩
      have g19 : (w19.cell? ⟨w7.heap.size, 0, none⟩ = some (.int .i64 X) ∧ w19.cell? ⟨w7.heap.size, 1, none⟩ = some (.int .i64 Y) ∧ w19.cell? ⟨w7.heap.size, 2, none⟩ = some (.slice A1 nL c1)) := ⟨k19.cell g18.out.1, k19.cell g18.out.2.1, k19.cell g18.out.2.2⟩
      have OM4 := Lib.hid (ownsRow_keep OM3.out k19)
      have Kx := K18w.trans k19
      clear h18 b18 W1H OM3 K4h g18 k19
      go_wp2_with fail
      refine (heldState_own X Y _ nL (w6.heap.size + 1) 1 _ (by omega) (by omega) hn6 OM4.out).mono ?_
      rintro e20 w20 ⟨rfl, k20⟩
      go_wp2_with fail
      go_ret
      exact ⟨rfl, Kx.trans k20⟩

end Go.Proofs.YtiaahpcfciomlaaGreatDoor.loseStepsLaw
