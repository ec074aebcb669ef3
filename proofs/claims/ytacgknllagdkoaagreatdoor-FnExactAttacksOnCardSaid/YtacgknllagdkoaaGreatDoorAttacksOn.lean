/-
 The law on AttacksOn holds at every argument: the program's answer is the reference's, in memory of its own, and the arguments read as before. The named variables hold what the program's text lays (the card ties them).
-/
import Derived.Test.YtacgknllagdkoaaGreatDoorFcAttacksOn
import Derived.Test.YtacgknllagdkoaaGreatDoorOrK
import Derived.Test.YtacgknllagdkoaaGreatDoorOrV
import Derived.Test.YtacgknllagdkoaaGreatDoorTabE
import Derived.Test.YtacgknllagdkoaaGreatDoorQa
import Derived.Test.YtacgknllagdkoaaGreatDoorQl
namespace Go.Proofs.YtacgknllagdkoaaGreatDoor.attacksOnLaw
open Go.ChangeShapes Go.WideShapes Go.ChangeAt Go.RowKit Go.Joins
theorem keep17k {W0 w w1:World} {p0 p1 p2 p3 p4 p5 p6 p7 p8 p9 p10 p11 p12 p13 p14 p15 p16:Addr} {v0 v1 v2 v3 v4 v5 v6 v7 v8 v9 v10 v11 v12 v13 v14 v15 v16:Value} (k:Kp w w1) (h:w.cell? p0=some v0∧w.cell? p1=some v1∧w.cell? p2=some v2∧w.cell? p3=some v3∧w.cell? p4=some v4∧w.cell? p5=some v5∧w.cell? p6=some v6∧w.cell? p7=some v7∧w.cell? p8=some v8∧w.cell? p9=some v9∧w.cell? p10=some v10∧w.cell? p11=some v11∧w.cell? p12=some v12∧w.cell? p13=some v13∧w.cell? p14=some v14∧w.cell? p15=some v15∧w.cell? p16=some v16∧Kp W0 w):w1.cell? p0=some v0∧w1.cell? p1=some v1∧w1.cell? p2=some v2∧w1.cell? p3=some v3∧w1.cell? p4=some v4∧w1.cell? p5=some v5∧w1.cell? p6=some v6∧w1.cell? p7=some v7∧w1.cell? p8=some v8∧w1.cell? p9=some v9∧w1.cell? p10=some v10∧w1.cell? p11=some v11∧w1.cell? p12=some v12∧w1.cell? p13=some v13∧w1.cell? p14=some v14∧w1.cell? p15=some v15∧w1.cell? p16=some v16∧Kp W0 w1 :=
 ⟨k.cell h.1,k.cell h.2.1,k.cell h.2.2.1,k.cell h.2.2.2.1,k.cell h.2.2.2.2.1,k.cell h.2.2.2.2.2.1,k.cell h.2.2.2.2.2.2.1,k.cell h.2.2.2.2.2.2.2.1,k.cell h.2.2.2.2.2.2.2.2.1,k.cell h.2.2.2.2.2.2.2.2.2.1,k.cell h.2.2.2.2.2.2.2.2.2.2.1,k.cell h.2.2.2.2.2.2.2.2.2.2.2.1,k.cell h.2.2.2.2.2.2.2.2.2.2.2.2.1,k.cell h.2.2.2.2.2.2.2.2.2.2.2.2.2.1,k.cell h.2.2.2.2.2.2.2.2.2.2.2.2.2.2.1,k.cell h.2.2.2.2.2.2.2.2.2.2.2.2.2.2.2.1,k.cell h.2.2.2.2.2.2.2.2.2.2.2.2.2.2.2.2.1,h.2.2.2.2.2.2.2.2.2.2.2.2.2.2.2.2.2.trans k⟩
theorem drew17k {W0 w:World} {p0 p1 p2 p3 p4 p5 p6 p7 p8 p9 p10 p11 p12 p13 p14 p15 p16:Addr} {v0 v1 v2 v3 v4 v5 v6 v7 v8 v9 v10 v11 v12 v13 v14 v15 v16:Value} (h:w.cell? p0=some v0∧w.cell? p1=some v1∧w.cell? p2=some v2∧w.cell? p3=some v3∧w.cell? p4=some v4∧w.cell? p5=some v5∧w.cell? p6=some v6∧w.cell? p7=some v7∧w.cell? p8=some v8∧w.cell? p9=some v9∧w.cell? p10=some v10∧w.cell? p11=some v11∧w.cell? p12=some v12∧w.cell? p13=some v13∧w.cell? p14=some v14∧w.cell? p15=some v15∧w.cell? p16=some v16∧Kp W0 w):w.drew.cell? p0=some v0∧w.drew.cell? p1=some v1∧w.drew.cell? p2=some v2∧w.drew.cell? p3=some v3∧w.drew.cell? p4=some v4∧w.drew.cell? p5=some v5∧w.drew.cell? p6=some v6∧w.drew.cell? p7=some v7∧w.drew.cell? p8=some v8∧w.drew.cell? p9=some v9∧w.drew.cell? p10=some v10∧w.drew.cell? p11=some v11∧w.drew.cell? p12=some v12∧w.drew.cell? p13=some v13∧w.drew.cell? p14=some v14∧w.drew.cell? p15=some v15∧w.drew.cell? p16=some v16∧Kp W0 w.drew :=
 ⟨h.1,h.2.1,h.2.2.1,h.2.2.2.1,h.2.2.2.2.1,h.2.2.2.2.2.1,h.2.2.2.2.2.2.1,h.2.2.2.2.2.2.2.1,h.2.2.2.2.2.2.2.2.1,h.2.2.2.2.2.2.2.2.2.1,h.2.2.2.2.2.2.2.2.2.2.1,h.2.2.2.2.2.2.2.2.2.2.2.1,h.2.2.2.2.2.2.2.2.2.2.2.2.1,h.2.2.2.2.2.2.2.2.2.2.2.2.2.1,h.2.2.2.2.2.2.2.2.2.2.2.2.2.2.1,h.2.2.2.2.2.2.2.2.2.2.2.2.2.2.2.1,h.2.2.2.2.2.2.2.2.2.2.2.2.2.2.2.2.1,h.2.2.2.2.2.2.2.2.2.2.2.2.2.2.2.2.2.drew⟩
theorem keep29k {W0 w w1:World} {p0 p1 p2 p3 p4 p5 p6 p7 p8 p9 p10 p11 p12 p13 p14 p15 p16 p17 p18 p19 p20 p21 p22 p23 p24 p25 p26 p27 p28:Addr} {v0 v1 v2 v3 v4 v5 v6 v7 v8 v9 v10 v11 v12 v13 v14 v15 v16 v17 v18 v19 v20 v21 v22 v23 v24 v25 v26 v27 v28:Value} (k:Kp w w1) (h:w.cell? p0=some v0∧w.cell? p1=some v1∧w.cell? p2=some v2∧w.cell? p3=some v3∧w.cell? p4=some v4∧w.cell? p5=some v5∧w.cell? p6=some v6∧w.cell? p7=some v7∧w.cell? p8=some v8∧w.cell? p9=some v9∧w.cell? p10=some v10∧w.cell? p11=some v11∧w.cell? p12=some v12∧w.cell? p13=some v13∧w.cell? p14=some v14∧w.cell? p15=some v15∧w.cell? p16=some v16∧w.cell? p17=some v17∧w.cell? p18=some v18∧w.cell? p19=some v19∧w.cell? p20=some v20∧w.cell? p21=some v21∧w.cell? p22=some v22∧w.cell? p23=some v23∧w.cell? p24=some v24∧w.cell? p25=some v25∧w.cell? p26=some v26∧w.cell? p27=some v27∧w.cell? p28=some v28∧Kp W0 w):w1.cell? p0=some v0∧w1.cell? p1=some v1∧w1.cell? p2=some v2∧w1.cell? p3=some v3∧w1.cell? p4=some v4∧w1.cell? p5=some v5∧w1.cell? p6=some v6∧w1.cell? p7=some v7∧w1.cell? p8=some v8∧w1.cell? p9=some v9∧w1.cell? p10=some v10∧w1.cell? p11=some v11∧w1.cell? p12=some v12∧w1.cell? p13=some v13∧w1.cell? p14=some v14∧w1.cell? p15=some v15∧w1.cell? p16=some v16∧w1.cell? p17=some v17∧w1.cell? p18=some v18∧w1.cell? p19=some v19∧w1.cell? p20=some v20∧w1.cell? p21=some v21∧w1.cell? p22=some v22∧w1.cell? p23=some v23∧w1.cell? p24=some v24∧w1.cell? p25=some v25∧w1.cell? p26=some v26∧w1.cell? p27=some v27∧w1.cell? p28=some v28∧Kp W0 w1 :=
 ⟨k.cell h.1,k.cell h.2.1,k.cell h.2.2.1,k.cell h.2.2.2.1,k.cell h.2.2.2.2.1,k.cell h.2.2.2.2.2.1,k.cell h.2.2.2.2.2.2.1,k.cell h.2.2.2.2.2.2.2.1,k.cell h.2.2.2.2.2.2.2.2.1,k.cell h.2.2.2.2.2.2.2.2.2.1,k.cell h.2.2.2.2.2.2.2.2.2.2.1,k.cell h.2.2.2.2.2.2.2.2.2.2.2.1,k.cell h.2.2.2.2.2.2.2.2.2.2.2.2.1,k.cell h.2.2.2.2.2.2.2.2.2.2.2.2.2.1,k.cell h.2.2.2.2.2.2.2.2.2.2.2.2.2.2.1,k.cell h.2.2.2.2.2.2.2.2.2.2.2.2.2.2.2.1,k.cell h.2.2.2.2.2.2.2.2.2.2.2.2.2.2.2.2.1,k.cell h.2.2.2.2.2.2.2.2.2.2.2.2.2.2.2.2.2.1,k.cell h.2.2.2.2.2.2.2.2.2.2.2.2.2.2.2.2.2.2.1,k.cell h.2.2.2.2.2.2.2.2.2.2.2.2.2.2.2.2.2.2.2.1,k.cell h.2.2.2.2.2.2.2.2.2.2.2.2.2.2.2.2.2.2.2.2.1,k.cell h.2.2.2.2.2.2.2.2.2.2.2.2.2.2.2.2.2.2.2.2.2.1,k.cell h.2.2.2.2.2.2.2.2.2.2.2.2.2.2.2.2.2.2.2.2.2.2.1,k.cell h.2.2.2.2.2.2.2.2.2.2.2.2.2.2.2.2.2.2.2.2.2.2.2.1,k.cell h.2.2.2.2.2.2.2.2.2.2.2.2.2.2.2.2.2.2.2.2.2.2.2.2.1,k.cell h.2.2.2.2.2.2.2.2.2.2.2.2.2.2.2.2.2.2.2.2.2.2.2.2.2.1,k.cell h.2.2.2.2.2.2.2.2.2.2.2.2.2.2.2.2.2.2.2.2.2.2.2.2.2.2.1,k.cell h.2.2.2.2.2.2.2.2.2.2.2.2.2.2.2.2.2.2.2.2.2.2.2.2.2.2.2.1,k.cell h.2.2.2.2.2.2.2.2.2.2.2.2.2.2.2.2.2.2.2.2.2.2.2.2.2.2.2.2.1,h.2.2.2.2.2.2.2.2.2.2.2.2.2.2.2.2.2.2.2.2.2.2.2.2.2.2.2.2.2.trans k⟩
theorem drew29k {W0 w:World} {p0 p1 p2 p3 p4 p5 p6 p7 p8 p9 p10 p11 p12 p13 p14 p15 p16 p17 p18 p19 p20 p21 p22 p23 p24 p25 p26 p27 p28:Addr} {v0 v1 v2 v3 v4 v5 v6 v7 v8 v9 v10 v11 v12 v13 v14 v15 v16 v17 v18 v19 v20 v21 v22 v23 v24 v25 v26 v27 v28:Value} (h:w.cell? p0=some v0∧w.cell? p1=some v1∧w.cell? p2=some v2∧w.cell? p3=some v3∧w.cell? p4=some v4∧w.cell? p5=some v5∧w.cell? p6=some v6∧w.cell? p7=some v7∧w.cell? p8=some v8∧w.cell? p9=some v9∧w.cell? p10=some v10∧w.cell? p11=some v11∧w.cell? p12=some v12∧w.cell? p13=some v13∧w.cell? p14=some v14∧w.cell? p15=some v15∧w.cell? p16=some v16∧w.cell? p17=some v17∧w.cell? p18=some v18∧w.cell? p19=some v19∧w.cell? p20=some v20∧w.cell? p21=some v21∧w.cell? p22=some v22∧w.cell? p23=some v23∧w.cell? p24=some v24∧w.cell? p25=some v25∧w.cell? p26=some v26∧w.cell? p27=some v27∧w.cell? p28=some v28∧Kp W0 w):w.drew.cell? p0=some v0∧w.drew.cell? p1=some v1∧w.drew.cell? p2=some v2∧w.drew.cell? p3=some v3∧w.drew.cell? p4=some v4∧w.drew.cell? p5=some v5∧w.drew.cell? p6=some v6∧w.drew.cell? p7=some v7∧w.drew.cell? p8=some v8∧w.drew.cell? p9=some v9∧w.drew.cell? p10=some v10∧w.drew.cell? p11=some v11∧w.drew.cell? p12=some v12∧w.drew.cell? p13=some v13∧w.drew.cell? p14=some v14∧w.drew.cell? p15=some v15∧w.drew.cell? p16=some v16∧w.drew.cell? p17=some v17∧w.drew.cell? p18=some v18∧w.drew.cell? p19=some v19∧w.drew.cell? p20=some v20∧w.drew.cell? p21=some v21∧w.drew.cell? p22=some v22∧w.drew.cell? p23=some v23∧w.drew.cell? p24=some v24∧w.drew.cell? p25=some v25∧w.drew.cell? p26=some v26∧w.drew.cell? p27=some v27∧w.drew.cell? p28=some v28∧Kp W0 w.drew :=
 ⟨h.1,h.2.1,h.2.2.1,h.2.2.2.1,h.2.2.2.2.1,h.2.2.2.2.2.1,h.2.2.2.2.2.2.1,h.2.2.2.2.2.2.2.1,h.2.2.2.2.2.2.2.2.1,h.2.2.2.2.2.2.2.2.2.1,h.2.2.2.2.2.2.2.2.2.2.1,h.2.2.2.2.2.2.2.2.2.2.2.1,h.2.2.2.2.2.2.2.2.2.2.2.2.1,h.2.2.2.2.2.2.2.2.2.2.2.2.2.1,h.2.2.2.2.2.2.2.2.2.2.2.2.2.2.1,h.2.2.2.2.2.2.2.2.2.2.2.2.2.2.2.1,h.2.2.2.2.2.2.2.2.2.2.2.2.2.2.2.2.1,h.2.2.2.2.2.2.2.2.2.2.2.2.2.2.2.2.2.1,h.2.2.2.2.2.2.2.2.2.2.2.2.2.2.2.2.2.2.1,h.2.2.2.2.2.2.2.2.2.2.2.2.2.2.2.2.2.2.2.1,h.2.2.2.2.2.2.2.2.2.2.2.2.2.2.2.2.2.2.2.2.1,h.2.2.2.2.2.2.2.2.2.2.2.2.2.2.2.2.2.2.2.2.2.1,h.2.2.2.2.2.2.2.2.2.2.2.2.2.2.2.2.2.2.2.2.2.2.1,h.2.2.2.2.2.2.2.2.2.2.2.2.2.2.2.2.2.2.2.2.2.2.2.1,h.2.2.2.2.2.2.2.2.2.2.2.2.2.2.2.2.2.2.2.2.2.2.2.2.1,h.2.2.2.2.2.2.2.2.2.2.2.2.2.2.2.2.2.2.2.2.2.2.2.2.2.1,h.2.2.2.2.2.2.2.2.2.2.2.2.2.2.2.2.2.2.2.2.2.2.2.2.2.2.1,h.2.2.2.2.2.2.2.2.2.2.2.2.2.2.2.2.2.2.2.2.2.2.2.2.2.2.2.1,h.2.2.2.2.2.2.2.2.2.2.2.2.2.2.2.2.2.2.2.2.2.2.2.2.2.2.2.2.1,h.2.2.2.2.2.2.2.2.2.2.2.2.2.2.2.2.2.2.2.2.2.2.2.2.2.2.2.2.2.drew⟩
theorem keep32k {W0 w w1:World} {p0 p1 p2 p3 p4 p5 p6 p7 p8 p9 p10 p11 p12 p13 p14 p15 p16 p17 p18 p19 p20 p21 p22 p23 p24 p25 p26 p27 p28 p29 p30 p31:Addr} {v0 v1 v2 v3 v4 v5 v6 v7 v8 v9 v10 v11 v12 v13 v14 v15 v16 v17 v18 v19 v20 v21 v22 v23 v24 v25 v26 v27 v28 v29 v30 v31:Value} (k:Kp w w1) (h:w.cell? p0=some v0∧w.cell? p1=some v1∧w.cell? p2=some v2∧w.cell? p3=some v3∧w.cell? p4=some v4∧w.cell? p5=some v5∧w.cell? p6=some v6∧w.cell? p7=some v7∧w.cell? p8=some v8∧w.cell? p9=some v9∧w.cell? p10=some v10∧w.cell? p11=some v11∧w.cell? p12=some v12∧w.cell? p13=some v13∧w.cell? p14=some v14∧w.cell? p15=some v15∧w.cell? p16=some v16∧w.cell? p17=some v17∧w.cell? p18=some v18∧w.cell? p19=some v19∧w.cell? p20=some v20∧w.cell? p21=some v21∧w.cell? p22=some v22∧w.cell? p23=some v23∧w.cell? p24=some v24∧w.cell? p25=some v25∧w.cell? p26=some v26∧w.cell? p27=some v27∧w.cell? p28=some v28∧w.cell? p29=some v29∧w.cell? p30=some v30∧w.cell? p31=some v31∧Kp W0 w):w1.cell? p0=some v0∧w1.cell? p1=some v1∧w1.cell? p2=some v2∧w1.cell? p3=some v3∧w1.cell? p4=some v4∧w1.cell? p5=some v5∧w1.cell? p6=some v6∧w1.cell? p7=some v7∧w1.cell? p8=some v8∧w1.cell? p9=some v9∧w1.cell? p10=some v10∧w1.cell? p11=some v11∧w1.cell? p12=some v12∧w1.cell? p13=some v13∧w1.cell? p14=some v14∧w1.cell? p15=some v15∧w1.cell? p16=some v16∧w1.cell? p17=some v17∧w1.cell? p18=some v18∧w1.cell? p19=some v19∧w1.cell? p20=some v20∧w1.cell? p21=some v21∧w1.cell? p22=some v22∧w1.cell? p23=some v23∧w1.cell? p24=some v24∧w1.cell? p25=some v25∧w1.cell? p26=some v26∧w1.cell? p27=some v27∧w1.cell? p28=some v28∧w1.cell? p29=some v29∧w1.cell? p30=some v30∧w1.cell? p31=some v31∧Kp W0 w1 :=
 ⟨k.cell h.1,k.cell h.2.1,k.cell h.2.2.1,k.cell h.2.2.2.1,k.cell h.2.2.2.2.1,k.cell h.2.2.2.2.2.1,k.cell h.2.2.2.2.2.2.1,k.cell h.2.2.2.2.2.2.2.1,k.cell h.2.2.2.2.2.2.2.2.1,k.cell h.2.2.2.2.2.2.2.2.2.1,k.cell h.2.2.2.2.2.2.2.2.2.2.1,k.cell h.2.2.2.2.2.2.2.2.2.2.2.1,k.cell h.2.2.2.2.2.2.2.2.2.2.2.2.1,k.cell h.2.2.2.2.2.2.2.2.2.2.2.2.2.1,k.cell h.2.2.2.2.2.2.2.2.2.2.2.2.2.2.1,k.cell h.2.2.2.2.2.2.2.2.2.2.2.2.2.2.2.1,k.cell h.2.2.2.2.2.2.2.2.2.2.2.2.2.2.2.2.1,k.cell h.2.2.2.2.2.2.2.2.2.2.2.2.2.2.2.2.2.1,k.cell h.2.2.2.2.2.2.2.2.2.2.2.2.2.2.2.2.2.2.1,k.cell h.2.2.2.2.2.2.2.2.2.2.2.2.2.2.2.2.2.2.2.1,k.cell h.2.2.2.2.2.2.2.2.2.2.2.2.2.2.2.2.2.2.2.2.1,k.cell h.2.2.2.2.2.2.2.2.2.2.2.2.2.2.2.2.2.2.2.2.2.1,k.cell h.2.2.2.2.2.2.2.2.2.2.2.2.2.2.2.2.2.2.2.2.2.2.1,k.cell h.2.2.2.2.2.2.2.2.2.2.2.2.2.2.2.2.2.2.2.2.2.2.2.1,k.cell h.2.2.2.2.2.2.2.2.2.2.2.2.2.2.2.2.2.2.2.2.2.2.2.2.1,k.cell h.2.2.2.2.2.2.2.2.2.2.2.2.2.2.2.2.2.2.2.2.2.2.2.2.2.1,k.cell h.2.2.2.2.2.2.2.2.2.2.2.2.2.2.2.2.2.2.2.2.2.2.2.2.2.2.1,k.cell h.2.2.2.2.2.2.2.2.2.2.2.2.2.2.2.2.2.2.2.2.2.2.2.2.2.2.2.1,k.cell h.2.2.2.2.2.2.2.2.2.2.2.2.2.2.2.2.2.2.2.2.2.2.2.2.2.2.2.2.1,k.cell h.2.2.2.2.2.2.2.2.2.2.2.2.2.2.2.2.2.2.2.2.2.2.2.2.2.2.2.2.2.1,k.cell h.2.2.2.2.2.2.2.2.2.2.2.2.2.2.2.2.2.2.2.2.2.2.2.2.2.2.2.2.2.2.1,k.cell h.2.2.2.2.2.2.2.2.2.2.2.2.2.2.2.2.2.2.2.2.2.2.2.2.2.2.2.2.2.2.2.1,h.2.2.2.2.2.2.2.2.2.2.2.2.2.2.2.2.2.2.2.2.2.2.2.2.2.2.2.2.2.2.2.2.trans k⟩
theorem drew32k {W0 w:World} {p0 p1 p2 p3 p4 p5 p6 p7 p8 p9 p10 p11 p12 p13 p14 p15 p16 p17 p18 p19 p20 p21 p22 p23 p24 p25 p26 p27 p28 p29 p30 p31:Addr} {v0 v1 v2 v3 v4 v5 v6 v7 v8 v9 v10 v11 v12 v13 v14 v15 v16 v17 v18 v19 v20 v21 v22 v23 v24 v25 v26 v27 v28 v29 v30 v31:Value} (h:w.cell? p0=some v0∧w.cell? p1=some v1∧w.cell? p2=some v2∧w.cell? p3=some v3∧w.cell? p4=some v4∧w.cell? p5=some v5∧w.cell? p6=some v6∧w.cell? p7=some v7∧w.cell? p8=some v8∧w.cell? p9=some v9∧w.cell? p10=some v10∧w.cell? p11=some v11∧w.cell? p12=some v12∧w.cell? p13=some v13∧w.cell? p14=some v14∧w.cell? p15=some v15∧w.cell? p16=some v16∧w.cell? p17=some v17∧w.cell? p18=some v18∧w.cell? p19=some v19∧w.cell? p20=some v20∧w.cell? p21=some v21∧w.cell? p22=some v22∧w.cell? p23=some v23∧w.cell? p24=some v24∧w.cell? p25=some v25∧w.cell? p26=some v26∧w.cell? p27=some v27∧w.cell? p28=some v28∧w.cell? p29=some v29∧w.cell? p30=some v30∧w.cell? p31=some v31∧Kp W0 w):w.drew.cell? p0=some v0∧w.drew.cell? p1=some v1∧w.drew.cell? p2=some v2∧w.drew.cell? p3=some v3∧w.drew.cell? p4=some v4∧w.drew.cell? p5=some v5∧w.drew.cell? p6=some v6∧w.drew.cell? p7=some v7∧w.drew.cell? p8=some v8∧w.drew.cell? p9=some v9∧w.drew.cell? p10=some v10∧w.drew.cell? p11=some v11∧w.drew.cell? p12=some v12∧w.drew.cell? p13=some v13∧w.drew.cell? p14=some v14∧w.drew.cell? p15=some v15∧w.drew.cell? p16=some v16∧w.drew.cell? p17=some v17∧w.drew.cell? p18=some v18∧w.drew.cell? p19=some v19∧w.drew.cell? p20=some v20∧w.drew.cell? p21=some v21∧w.drew.cell? p22=some v22∧w.drew.cell? p23=some v23∧w.drew.cell? p24=some v24∧w.drew.cell? p25=some v25∧w.drew.cell? p26=some v26∧w.drew.cell? p27=some v27∧w.drew.cell? p28=some v28∧w.drew.cell? p29=some v29∧w.drew.cell? p30=some v30∧w.drew.cell? p31=some v31∧Kp W0 w.drew :=
 ⟨h.1,h.2.1,h.2.2.1,h.2.2.2.1,h.2.2.2.2.1,h.2.2.2.2.2.1,h.2.2.2.2.2.2.1,h.2.2.2.2.2.2.2.1,h.2.2.2.2.2.2.2.2.1,h.2.2.2.2.2.2.2.2.2.1,h.2.2.2.2.2.2.2.2.2.2.1,h.2.2.2.2.2.2.2.2.2.2.2.1,h.2.2.2.2.2.2.2.2.2.2.2.2.1,h.2.2.2.2.2.2.2.2.2.2.2.2.2.1,h.2.2.2.2.2.2.2.2.2.2.2.2.2.2.1,h.2.2.2.2.2.2.2.2.2.2.2.2.2.2.2.1,h.2.2.2.2.2.2.2.2.2.2.2.2.2.2.2.2.1,h.2.2.2.2.2.2.2.2.2.2.2.2.2.2.2.2.2.1,h.2.2.2.2.2.2.2.2.2.2.2.2.2.2.2.2.2.2.1,h.2.2.2.2.2.2.2.2.2.2.2.2.2.2.2.2.2.2.2.1,h.2.2.2.2.2.2.2.2.2.2.2.2.2.2.2.2.2.2.2.2.1,h.2.2.2.2.2.2.2.2.2.2.2.2.2.2.2.2.2.2.2.2.2.1,h.2.2.2.2.2.2.2.2.2.2.2.2.2.2.2.2.2.2.2.2.2.2.1,h.2.2.2.2.2.2.2.2.2.2.2.2.2.2.2.2.2.2.2.2.2.2.2.1,h.2.2.2.2.2.2.2.2.2.2.2.2.2.2.2.2.2.2.2.2.2.2.2.2.1,h.2.2.2.2.2.2.2.2.2.2.2.2.2.2.2.2.2.2.2.2.2.2.2.2.2.1,h.2.2.2.2.2.2.2.2.2.2.2.2.2.2.2.2.2.2.2.2.2.2.2.2.2.2.1,h.2.2.2.2.2.2.2.2.2.2.2.2.2.2.2.2.2.2.2.2.2.2.2.2.2.2.2.1,h.2.2.2.2.2.2.2.2.2.2.2.2.2.2.2.2.2.2.2.2.2.2.2.2.2.2.2.2.1,h.2.2.2.2.2.2.2.2.2.2.2.2.2.2.2.2.2.2.2.2.2.2.2.2.2.2.2.2.2.1,h.2.2.2.2.2.2.2.2.2.2.2.2.2.2.2.2.2.2.2.2.2.2.2.2.2.2.2.2.2.2.1,h.2.2.2.2.2.2.2.2.2.2.2.2.2.2.2.2.2.2.2.2.2.2.2.2.2.2.2.2.2.2.2.1,h.2.2.2.2.2.2.2.2.2.2.2.2.2.2.2.2.2.2.2.2.2.2.2.2.2.2.2.2.2.2.2.2.drew⟩
theorem keep34k {W0 w w1:World} {p0 p1 p2 p3 p4 p5 p6 p7 p8 p9 p10 p11 p12 p13 p14 p15 p16 p17 p18 p19 p20 p21 p22 p23 p24 p25 p26 p27 p28 p29 p30 p31 p32 p33:Addr} {v0 v1 v2 v3 v4 v5 v6 v7 v8 v9 v10 v11 v12 v13 v14 v15 v16 v17 v18 v19 v20 v21 v22 v23 v24 v25 v26 v27 v28 v29 v30 v31 v32 v33:Value} (k:Kp w w1) (h:w.cell? p0=some v0∧w.cell? p1=some v1∧w.cell? p2=some v2∧w.cell? p3=some v3∧w.cell? p4=some v4∧w.cell? p5=some v5∧w.cell? p6=some v6∧w.cell? p7=some v7∧w.cell? p8=some v8∧w.cell? p9=some v9∧w.cell? p10=some v10∧w.cell? p11=some v11∧w.cell? p12=some v12∧w.cell? p13=some v13∧w.cell? p14=some v14∧w.cell? p15=some v15∧w.cell? p16=some v16∧w.cell? p17=some v17∧w.cell? p18=some v18∧w.cell? p19=some v19∧w.cell? p20=some v20∧w.cell? p21=some v21∧w.cell? p22=some v22∧w.cell? p23=some v23∧w.cell? p24=some v24∧w.cell? p25=some v25∧w.cell? p26=some v26∧w.cell? p27=some v27∧w.cell? p28=some v28∧w.cell? p29=some v29∧w.cell? p30=some v30∧w.cell? p31=some v31∧w.cell? p32=some v32∧w.cell? p33=some v33∧Kp W0 w):w1.cell? p0=some v0∧w1.cell? p1=some v1∧w1.cell? p2=some v2∧w1.cell? p3=some v3∧w1.cell? p4=some v4∧w1.cell? p5=some v5∧w1.cell? p6=some v6∧w1.cell? p7=some v7∧w1.cell? p8=some v8∧w1.cell? p9=some v9∧w1.cell? p10=some v10∧w1.cell? p11=some v11∧w1.cell? p12=some v12∧w1.cell? p13=some v13∧w1.cell? p14=some v14∧w1.cell? p15=some v15∧w1.cell? p16=some v16∧w1.cell? p17=some v17∧w1.cell? p18=some v18∧w1.cell? p19=some v19∧w1.cell? p20=some v20∧w1.cell? p21=some v21∧w1.cell? p22=some v22∧w1.cell? p23=some v23∧w1.cell? p24=some v24∧w1.cell? p25=some v25∧w1.cell? p26=some v26∧w1.cell? p27=some v27∧w1.cell? p28=some v28∧w1.cell? p29=some v29∧w1.cell? p30=some v30∧w1.cell? p31=some v31∧w1.cell? p32=some v32∧w1.cell? p33=some v33∧Kp W0 w1 :=
 ⟨k.cell h.1,k.cell h.2.1,k.cell h.2.2.1,k.cell h.2.2.2.1,k.cell h.2.2.2.2.1,k.cell h.2.2.2.2.2.1,k.cell h.2.2.2.2.2.2.1,k.cell h.2.2.2.2.2.2.2.1,k.cell h.2.2.2.2.2.2.2.2.1,k.cell h.2.2.2.2.2.2.2.2.2.1,k.cell h.2.2.2.2.2.2.2.2.2.2.1,k.cell h.2.2.2.2.2.2.2.2.2.2.2.1,k.cell h.2.2.2.2.2.2.2.2.2.2.2.2.1,k.cell h.2.2.2.2.2.2.2.2.2.2.2.2.2.1,k.cell h.2.2.2.2.2.2.2.2.2.2.2.2.2.2.1,k.cell h.2.2.2.2.2.2.2.2.2.2.2.2.2.2.2.1,k.cell h.2.2.2.2.2.2.2.2.2.2.2.2.2.2.2.2.1,k.cell h.2.2.2.2.2.2.2.2.2.2.2.2.2.2.2.2.2.1,k.cell h.2.2.2.2.2.2.2.2.2.2.2.2.2.2.2.2.2.2.1,k.cell h.2.2.2.2.2.2.2.2.2.2.2.2.2.2.2.2.2.2.2.1,k.cell h.2.2.2.2.2.2.2.2.2.2.2.2.2.2.2.2.2.2.2.2.1,k.cell h.2.2.2.2.2.2.2.2.2.2.2.2.2.2.2.2.2.2.2.2.2.1,k.cell h.2.2.2.2.2.2.2.2.2.2.2.2.2.2.2.2.2.2.2.2.2.2.1,k.cell h.2.2.2.2.2.2.2.2.2.2.2.2.2.2.2.2.2.2.2.2.2.2.2.1,k.cell h.2.2.2.2.2.2.2.2.2.2.2.2.2.2.2.2.2.2.2.2.2.2.2.2.1,k.cell h.2.2.2.2.2.2.2.2.2.2.2.2.2.2.2.2.2.2.2.2.2.2.2.2.2.1,k.cell h.2.2.2.2.2.2.2.2.2.2.2.2.2.2.2.2.2.2.2.2.2.2.2.2.2.2.1,k.cell h.2.2.2.2.2.2.2.2.2.2.2.2.2.2.2.2.2.2.2.2.2.2.2.2.2.2.2.1,k.cell h.2.2.2.2.2.2.2.2.2.2.2.2.2.2.2.2.2.2.2.2.2.2.2.2.2.2.2.2.1,k.cell h.2.2.2.2.2.2.2.2.2.2.2.2.2.2.2.2.2.2.2.2.2.2.2.2.2.2.2.2.2.1,k.cell h.2.2.2.2.2.2.2.2.2.2.2.2.2.2.2.2.2.2.2.2.2.2.2.2.2.2.2.2.2.2.1,k.cell h.2.2.2.2.2.2.2.2.2.2.2.2.2.2.2.2.2.2.2.2.2.2.2.2.2.2.2.2.2.2.2.1,k.cell h.2.2.2.2.2.2.2.2.2.2.2.2.2.2.2.2.2.2.2.2.2.2.2.2.2.2.2.2.2.2.2.2.1,k.cell h.2.2.2.2.2.2.2.2.2.2.2.2.2.2.2.2.2.2.2.2.2.2.2.2.2.2.2.2.2.2.2.2.2.1,h.2.2.2.2.2.2.2.2.2.2.2.2.2.2.2.2.2.2.2.2.2.2.2.2.2.2.2.2.2.2.2.2.2.2.trans k⟩
theorem drew34k {W0 w:World} {p0 p1 p2 p3 p4 p5 p6 p7 p8 p9 p10 p11 p12 p13 p14 p15 p16 p17 p18 p19 p20 p21 p22 p23 p24 p25 p26 p27 p28 p29 p30 p31 p32 p33:Addr} {v0 v1 v2 v3 v4 v5 v6 v7 v8 v9 v10 v11 v12 v13 v14 v15 v16 v17 v18 v19 v20 v21 v22 v23 v24 v25 v26 v27 v28 v29 v30 v31 v32 v33:Value} (h:w.cell? p0=some v0∧w.cell? p1=some v1∧w.cell? p2=some v2∧w.cell? p3=some v3∧w.cell? p4=some v4∧w.cell? p5=some v5∧w.cell? p6=some v6∧w.cell? p7=some v7∧w.cell? p8=some v8∧w.cell? p9=some v9∧w.cell? p10=some v10∧w.cell? p11=some v11∧w.cell? p12=some v12∧w.cell? p13=some v13∧w.cell? p14=some v14∧w.cell? p15=some v15∧w.cell? p16=some v16∧w.cell? p17=some v17∧w.cell? p18=some v18∧w.cell? p19=some v19∧w.cell? p20=some v20∧w.cell? p21=some v21∧w.cell? p22=some v22∧w.cell? p23=some v23∧w.cell? p24=some v24∧w.cell? p25=some v25∧w.cell? p26=some v26∧w.cell? p27=some v27∧w.cell? p28=some v28∧w.cell? p29=some v29∧w.cell? p30=some v30∧w.cell? p31=some v31∧w.cell? p32=some v32∧w.cell? p33=some v33∧Kp W0 w):w.drew.cell? p0=some v0∧w.drew.cell? p1=some v1∧w.drew.cell? p2=some v2∧w.drew.cell? p3=some v3∧w.drew.cell? p4=some v4∧w.drew.cell? p5=some v5∧w.drew.cell? p6=some v6∧w.drew.cell? p7=some v7∧w.drew.cell? p8=some v8∧w.drew.cell? p9=some v9∧w.drew.cell? p10=some v10∧w.drew.cell? p11=some v11∧w.drew.cell? p12=some v12∧w.drew.cell? p13=some v13∧w.drew.cell? p14=some v14∧w.drew.cell? p15=some v15∧w.drew.cell? p16=some v16∧w.drew.cell? p17=some v17∧w.drew.cell? p18=some v18∧w.drew.cell? p19=some v19∧w.drew.cell? p20=some v20∧w.drew.cell? p21=some v21∧w.drew.cell? p22=some v22∧w.drew.cell? p23=some v23∧w.drew.cell? p24=some v24∧w.drew.cell? p25=some v25∧w.drew.cell? p26=some v26∧w.drew.cell? p27=some v27∧w.drew.cell? p28=some v28∧w.drew.cell? p29=some v29∧w.drew.cell? p30=some v30∧w.drew.cell? p31=some v31∧w.drew.cell? p32=some v32∧w.drew.cell? p33=some v33∧Kp W0 w.drew :=
 ⟨h.1,h.2.1,h.2.2.1,h.2.2.2.1,h.2.2.2.2.1,h.2.2.2.2.2.1,h.2.2.2.2.2.2.1,h.2.2.2.2.2.2.2.1,h.2.2.2.2.2.2.2.2.1,h.2.2.2.2.2.2.2.2.2.1,h.2.2.2.2.2.2.2.2.2.2.1,h.2.2.2.2.2.2.2.2.2.2.2.1,h.2.2.2.2.2.2.2.2.2.2.2.2.1,h.2.2.2.2.2.2.2.2.2.2.2.2.2.1,h.2.2.2.2.2.2.2.2.2.2.2.2.2.2.1,h.2.2.2.2.2.2.2.2.2.2.2.2.2.2.2.1,h.2.2.2.2.2.2.2.2.2.2.2.2.2.2.2.2.1,h.2.2.2.2.2.2.2.2.2.2.2.2.2.2.2.2.2.1,h.2.2.2.2.2.2.2.2.2.2.2.2.2.2.2.2.2.2.1,h.2.2.2.2.2.2.2.2.2.2.2.2.2.2.2.2.2.2.2.1,h.2.2.2.2.2.2.2.2.2.2.2.2.2.2.2.2.2.2.2.2.1,h.2.2.2.2.2.2.2.2.2.2.2.2.2.2.2.2.2.2.2.2.2.1,h.2.2.2.2.2.2.2.2.2.2.2.2.2.2.2.2.2.2.2.2.2.2.1,h.2.2.2.2.2.2.2.2.2.2.2.2.2.2.2.2.2.2.2.2.2.2.2.1,h.2.2.2.2.2.2.2.2.2.2.2.2.2.2.2.2.2.2.2.2.2.2.2.2.1,h.2.2.2.2.2.2.2.2.2.2.2.2.2.2.2.2.2.2.2.2.2.2.2.2.2.1,h.2.2.2.2.2.2.2.2.2.2.2.2.2.2.2.2.2.2.2.2.2.2.2.2.2.2.1,h.2.2.2.2.2.2.2.2.2.2.2.2.2.2.2.2.2.2.2.2.2.2.2.2.2.2.2.1,h.2.2.2.2.2.2.2.2.2.2.2.2.2.2.2.2.2.2.2.2.2.2.2.2.2.2.2.2.1,h.2.2.2.2.2.2.2.2.2.2.2.2.2.2.2.2.2.2.2.2.2.2.2.2.2.2.2.2.2.1,h.2.2.2.2.2.2.2.2.2.2.2.2.2.2.2.2.2.2.2.2.2.2.2.2.2.2.2.2.2.2.1,h.2.2.2.2.2.2.2.2.2.2.2.2.2.2.2.2.2.2.2.2.2.2.2.2.2.2.2.2.2.2.2.1,h.2.2.2.2.2.2.2.2.2.2.2.2.2.2.2.2.2.2.2.2.2.2.2.2.2.2.2.2.2.2.2.2.1,h.2.2.2.2.2.2.2.2.2.2.2.2.2.2.2.2.2.2.2.2.2.2.2.2.2.2.2.2.2.2.2.2.2.1,h.2.2.2.2.2.2.2.2.2.2.2.2.2.2.2.2.2.2.2.2.2.2.2.2.2.2.2.2.2.2.2.2.2.2.drew⟩
set_option maxRecDepth 100000 in
set_option maxHeartbeats 16000000 in
theorem walk (At Ak:Option Addr) (nt nk ct ck:Nat) (l:List Ter) (m:List Knd) (a b c d e W H:Int) (x r y:Value) (lt lr ld:List Int) (T Z:Int) (u:Value) (us:List Uni) (i:Int) (sd:Int) (v:Value) (xs:List Odr) (a1 a2 a3 a4 a5:Addr) (w:World) (h0:Spans w) (h1:Tab w) (h2:SpU w) (he:Errs w a1 a2 a3 a4 a5) (hd:ErrD w a1 a2 a3 a4 a5) (hr:BrdIn w At Ak nt nk l m x r y lt lr ld) (hr2:StaIn w u us) (hp:SheAt w v xs) (hpb:xs.length≤9223372036854775807) (hpc:∀ x ∈ xs,x.p.length≤9223372036854775807) :
  Calls Tryz.prog 10 #[bv (.slice At nt ct) (.slice Ak nk ck) a b c d e W H x r y,sv T Z u,hv sd v,.int .i64 i] w fun e' w'=>e'=.returned (.bool true)∧Kp w w':=by
 have HR:=Lib.hid hr
 have HU:=Lib.hid hr2
 have HP:=Lib.hid hp
 have HS0:=Lib.hid h0
 have HS1:=Lib.hid h1
 have HS2:=Lib.hid h2
 have HEr:=Lib.hid he
 have HEd:=Lib.hid hd
 obtain⟨mt,e1⟩:∃ n,lt.length=n:=⟨_,rfl⟩
 obtain⟨mr,e2⟩:∃ n,lr.length=n:=⟨_,rfl⟩
 obtain⟨md,e3⟩:∃ n,ld.length=n:=⟨_,rfl⟩
 have HE1:=Lib.hid e1
 have HE2:=Lib.hid e2
 have HE3:=Lib.hid e3
 clear e1 e2 e3
 obtain⟨mu,e4⟩:∃ n,us.length=n:=⟨_,rfl⟩
 have HE4:=Lib.hid e4
 clear e4
 obtain⟨B,hB⟩:∃ z,z=(((brdOk ⟨l,m,a,b,c,d,e⟩ W H lt lr ld && staOk ⟨l,m,a,b,c,d,e⟩ W H lt T Z us) && shtB (ordG l m lt lr ld W H b c Z us sd) sd xs) && onI W H i):=⟨_,rfl⟩
 obtain⟨L,hL⟩:∃ z,z=(if (((brdOk ⟨l,m,a,b,c,d,e⟩ W H lt lr ld && staOk ⟨l,m,a,b,c,d,e⟩ W H lt T Z us) && shtB (ordG l m lt lr ld W H b c Z us sd) sd xs) && onI W H i)=true then attL i xs else []):=⟨_,rfl⟩
 have HN:Hid (L.length≤1000):=Lib.hid (by
  rw [hL]
  split
  ·rename_i hb9;simp only [Bool.and_eq_true] at hb9;have h1:=sht_len hb9.1.2;have h2:=attL_len i xs;omega
  ·simp)
 have CS:Hid (smO xs→∀ (At Ak:Option Addr) (ct ck:Nat) (x r y u:Value) (v:Value) (w:World),BrdAt w At Ak nt nk l m x r y lt lr ld→StaAt w u us→SheAt w v xs→Calls Tryz.prog 45 #[bv (.slice At nt ct) (.slice Ak nk ck) a b c d e W H x r y,sv T Z u,hv sd v,.int .i64 i] w fun e' w'=>∃ v,e'=.returned (.tuple #[v,.bool B])∧OwnI w' w.heap.size v L∧Kp w w'):=Lib.hid fun hpl At Ak ct ck x r y u v w hb hu hv=>by
  rw [hB,hL]
  exact specAttacksOn_any At Ak nt nk ct ck l m a b c d e W H x r y lt lr ld T Z u us sd i v xs w hb hu hv hpl
 have CI:Hid (smO xs→∀ (At Ak:Option Addr) (ct ck:Nat) (x r y u:Value) (v:Value) (w:World),BrdAt w At Ak nt nk l m x r y lt lr ld→StaAt w u us→SheAt w v xs→Spans w→Tab w→SpU w→Errs w a1 a2 a3 a4 a5→ErrD w a1 a2 a3 a4 a5→Calls Tryz.prog 46 #[bv (.slice At nt ct) (.slice Ak nk ck) a b c d e W H x r y,sv T Z u,hv sd v,.int .i64 i] w fun e' w'=>∃ v,e'=.returned (.tuple #[v,.bool B])∧OwnI w' w.heap.size v L∧Kp w w'):=Lib.hid fun hpl At Ak ct ck x r y u v w hb hu hv h0 h1 h2 he hd=>by
  rw [hB,hL]
  exact attacksOnP_any At Ak nt nk ct ck l m a b c d e W H x r y lt lr ld T Z u us sd i v xs a1 a2 a3 a4 a5 w h0 h1 h2 he hb hu hv hpl
 have eB:(B != B)=false:=by simp
 clear hr hr2 hp h0 h1 h2 hB hL he hd
 have hn:=HN.out
 have s0:cb12 (((w.alloc (.cells #[.slice At nt ct,.slice Ak nk ck,.int .i64 a,.int .i64 b,.int .i64 c,.int .i64 d,.int .i64 e,.int .i64 W,.int .i64 H,x,r,y] 30)).alloc (.cells #[.int .i64 T,.int .i64 Z,u] 33)).alloc (.cells #[.int .i64 sd,v] 61)) (w.heap.size) (.slice At nt ct) (.slice Ak nk ck) (.int .i64 a) (.int .i64 b) (.int .i64 c) (.int .i64 d) (.int .i64 e) (.int .i64 W) (.int .i64 H) (x) (r) (y) (cb3 (((w.alloc (.cells #[.slice At nt ct,.slice Ak nk ck,.int .i64 a,.int .i64 b,.int .i64 c,.int .i64 d,.int .i64 e,.int .i64 W,.int .i64 H,x,r,y] 30)).alloc (.cells #[.int .i64 T,.int .i64 Z,u] 33)).alloc (.cells #[.int .i64 sd,v] 61)) (w.heap.size+1) (.int .i64 T) (.int .i64 Z) (u) (cb2 (((w.alloc (.cells #[.slice At nt ct,.slice Ak nk ck,.int .i64 a,.int .i64 b,.int .i64 c,.int .i64 d,.int .i64 e,.int .i64 W,.int .i64 H,x,r,y] 30)).alloc (.cells #[.int .i64 T,.int .i64 Z,u] 33)).alloc (.cells #[.int .i64 sd,v] 61)) (w.heap.size+1+1) (.int .i64 sd) (v) (Kp w (((w.alloc (.cells #[.slice At nt ct,.slice Ak nk ck,.int .i64 a,.int .i64 b,.int .i64 c,.int .i64 d,.int .i64 e,.int .i64 W,.int .i64 H,x,r,y] 30)).alloc (.cells #[.int .i64 T,.int .i64 Z,u] 33)).alloc (.cells #[.int .i64 sd,v] 61))))):=⟨by simp [go_sem],by simp [go_sem],by simp [go_sem],by simp [go_sem],by simp [go_sem],by simp [go_sem],by simp [go_sem],by simp [go_sem],by simp [go_sem],by simp [go_sem],by simp [go_sem],by simp [go_sem],by simp [go_sem],by simp [go_sem],by simp [go_sem],by simp [go_sem],by simp [go_sem],(((Kp.refl w).alloc _).alloc _).alloc _⟩
 go_enter Tryz.func10,Tryz.ntmps10
 go_wp2_with fail
 refine(szBoard_any _ _ _ _ _ _ l m _ _ _ _ _ _ _ _ _ _ lt lr ld _ _ (HR.out.keep s0.2.2.2.2.2.2.2.2.2.2.2.2.2.2.2.2.2) (by omega) (by omega)).mono ?_
 rintro e1 w1 ⟨r1,rfl,u1,u2,u3,k1⟩
 have s1:=keep17k k1 s0
 have U3:=Lib.hid u3
 clear s0 k1 u3
 by_cases hneg:r1<0
 ·go_wp2_with fail
  go_ret
  exact⟨rfl,s1.2.2.2.2.2.2.2.2.2.2.2.2.2.2.2.2.2⟩
 have SM:=Lib.hid (U3.out (by omega))
 have RA:=Lib.hid (HR.out.at SM.out)
 clear U3
 go_wp2_with fail
 refine(szState_any _ _ _ us _ _ (HU.out.keep s1.2.2.2.2.2.2.2.2.2.2.2.2.2.2.2.2.2) (by omega) u1).mono ?_
 rintro e2 w2a ⟨r2,rfl,v1,v2,v3,k2⟩
 have s2a:=keep17k k2 s1
 have V3:=Lib.hid v3
 clear s1 k2 v3
 by_cases hneg2:r2<0
 ·go_wp2_with fail
  go_ret
  exact⟨rfl,s2a.2.2.2.2.2.2.2.2.2.2.2.2.2.2.2.2.2⟩
 have SU:=Lib.hid (V3.out (by omega))
 have LA:=Lib.hid (HU.out.at SU.out)
 have hmu:mu≤1048576:=by rw [← HE4.out];exact SU.out
 clear V3
 go_wp2_with fail
 refine(szSheet_any sd v xs _ _ (HP.out.keep s2a.2.2.2.2.2.2.2.2.2.2.2.2.2.2.2.2.2) (by omega) v1 hpb hpc).mono ?_
 rintro e2' w2 ⟨r3,rfl,y1,y2,y3,k2'⟩
 have s2:=keep17k k2' s2a
 clear s2a k2'
 by_cases hneg3:r3<0
 ·go_wp2_with fail
  go_ret
  exact⟨rfl,s2.2.2.2.2.2.2.2.2.2.2.2.2.2.2.2.2.2⟩
 have hpl:smO xs:=y3 (by omega)
 have CT:=Lib.hid (fun w h=>toSheet_any sd v xs w h hpl)
 have HPL:=Lib.hid hpl
 have hxl:=hpl.1
 have CS:=Lib.hid (CS.out hpl)
 have CI:=Lib.hid (CI.out hpl)
 clear y3 hpl
 go_wp2_with fail
 have s2d:=drew17k s2
 go_region_held3 (fun w'=>cb12 w' (w.heap.size) (.slice At nt ct) (.slice Ak nk ck) (.int .i64 a) (.int .i64 b) (.int .i64 c) (.int .i64 d) (.int .i64 e) (.int .i64 W) (.int .i64 H) (x) (r) (y) (cb3 w' (w.heap.size+1) (.int .i64 T) (.int .i64 Z) (u) (cb2 w' (w.heap.size+1+1) (.int .i64 sd) (v) (Kp w w')))) (first | assumption | exact s2d)
  (first
   | (go_at_call 18;refine(toBoard_any _ _ _ _ _ _ l m _ _ _ _ _ _ _ _ _ _ lt lr ld mt mr md _ (RA.out.keep s2d.2.2.2.2.2.2.2.2.2.2.2.2.2.2.2.2.2) HE1.out HE2.out HE3.out).mono ?_;rintro e3 w3 ⟨g1a,g2a,csa,ysa,zsa,A1a,c1a,A2a,c2a,A3a,c3a,rfl,o3,k3⟩;have s3:=keep17k k3 s2d;have R3:=Lib.hid (o3.at RA.out))
   | (go_at_call 19;refine(toState_any T Z _ us mu _ (LA.out.keep s3.2.2.2.2.2.2.2.2.2.2.2.2.2.2.2.2.2) HE4.out).mono ?_;rintro e3' w3' ⟨gua,rfl,o3',k3'⟩;have s3':=keep17k k3' s3;have B3:=Lib.hid (R3.out.keep k3');have S3:=Lib.hid (o3'.sta LA.out))
   | (go_at_call 27;refine(CT.out _ (HP.out.keep s3'.2.2.2.2.2.2.2.2.2.2.2.2.2.2.2.2.2)).mono ?_;rintro e31 w31 ⟨goa,csoa,ysoa,rfl,hcoa,o31,hgla,hgua,k31⟩;have s31:=keep17k k31 s3';have B31:=Lib.hid (B3.out.keep k31);have S31:=Lib.hid (S3.out.keep k31);have R31:=Lib.hid (OwnOd.she o31 hcoa))
   | (go_at_call 45;refine(CS.out _ _ _ _ _ _ _ _ _ _ B31.out S31.out R31.out).mono ?_;rintro e4 w4 ⟨v0,rfl,o4,k4⟩;have s4:=keep17k k4 s31;have HS4:=Lib.hid s4;have R0:=Lib.hid o4.rd))
 clear s2 s2d s3 s3' R3 B3 S3 s31 B31 S31 R31
 go_wp2_with fail
 refine(toBoard_any _ _ _ _ _ _ l m _ _ _ _ _ _ _ _ _ _ lt lr ld mt mr md _ (RA.out.keep s4.2.2.2.2.2.2.2.2.2.2.2.2.2.2.2.2.2) HE1.out HE2.out HE3.out).mono ?_
 rintro e5 w5 ⟨g1b,g2b,csb,ysb,zsb,A1b,c1b,A2b,c2b,A3b,c3b,rfl,o5,k5⟩
 have s5a:=keep17k k5 s4
 have kb:Kp w5 (w5.alloc (.cells #[.slice (some ⟨g1b,0,none⟩) nt nt,.slice (some ⟨g2b,0,none⟩) nk nk,.int .i64 a,.int .i64 b,.int .i64 c,.int .i64 d,.int .i64 e,.int .i64 W,.int .i64 H,.slice A1b mt c1b,.slice A2b mr c2b,.slice A3b md c3b] 47)):=(Kp.refl w5).alloc _
 have s5:cb12 (w5.alloc (.cells #[.slice (some ⟨g1b,0,none⟩) nt nt,.slice (some ⟨g2b,0,none⟩) nk nk,.int .i64 a,.int .i64 b,.int .i64 c,.int .i64 d,.int .i64 e,.int .i64 W,.int .i64 H,.slice A1b mt c1b,.slice A2b mr c2b,.slice A3b md c3b] 47)) (w.heap.size) (.slice At nt ct) (.slice Ak nk ck) (.int .i64 a) (.int .i64 b) (.int .i64 c) (.int .i64 d) (.int .i64 e) (.int .i64 W) (.int .i64 H) (x) (r) (y) (cb3 (w5.alloc (.cells #[.slice (some ⟨g1b,0,none⟩) nt nt,.slice (some ⟨g2b,0,none⟩) nk nk,.int .i64 a,.int .i64 b,.int .i64 c,.int .i64 d,.int .i64 e,.int .i64 W,.int .i64 H,.slice A1b mt c1b,.slice A2b mr c2b,.slice A3b md c3b] 47)) (w.heap.size+1) (.int .i64 T) (.int .i64 Z) (u) (cb2 (w5.alloc (.cells #[.slice (some ⟨g1b,0,none⟩) nt nt,.slice (some ⟨g2b,0,none⟩) nk nk,.int .i64 a,.int .i64 b,.int .i64 c,.int .i64 d,.int .i64 e,.int .i64 W,.int .i64 H,.slice A1b mt c1b,.slice A2b mr c2b,.slice A3b md c3b] 47)) (w.heap.size+1+1) (.int .i64 sd) (v) (cb12 (w5.alloc (.cells #[.slice (some ⟨g1b,0,none⟩) nt nt,.slice (some ⟨g2b,0,none⟩) nk nk,.int .i64 a,.int .i64 b,.int .i64 c,.int .i64 d,.int .i64 e,.int .i64 W,.int .i64 H,.slice A1b mt c1b,.slice A2b mr c2b,.slice A3b md c3b] 47)) (w5.heap.size) (.slice (some ⟨g1b,0,none⟩) nt nt) (.slice (some ⟨g2b,0,none⟩) nk nk) (.int .i64 a) (.int .i64 b) (.int .i64 c) (.int .i64 d) (.int .i64 e) (.int .i64 W) (.int .i64 H) (.slice A1b mt c1b) (.slice A2b mr c2b) (.slice A3b md c3b) (Kp w (w5.alloc (.cells #[.slice (some ⟨g1b,0,none⟩) nt nt,.slice (some ⟨g2b,0,none⟩) nk nk,.int .i64 a,.int .i64 b,.int .i64 c,.int .i64 d,.int .i64 e,.int .i64 W,.int .i64 H,.slice A1b mt c1b,.slice A2b mr c2b,.slice A3b md c3b] 47)))))):=⟨kb.cell s5a.1,kb.cell s5a.2.1,kb.cell s5a.2.2.1,kb.cell s5a.2.2.2.1,kb.cell s5a.2.2.2.2.1,kb.cell s5a.2.2.2.2.2.1,kb.cell s5a.2.2.2.2.2.2.1,kb.cell s5a.2.2.2.2.2.2.2.1,kb.cell s5a.2.2.2.2.2.2.2.2.1,kb.cell s5a.2.2.2.2.2.2.2.2.2.1,kb.cell s5a.2.2.2.2.2.2.2.2.2.2.1,kb.cell s5a.2.2.2.2.2.2.2.2.2.2.2.1,kb.cell s5a.2.2.2.2.2.2.2.2.2.2.2.2.1,kb.cell s5a.2.2.2.2.2.2.2.2.2.2.2.2.2.1,kb.cell s5a.2.2.2.2.2.2.2.2.2.2.2.2.2.2.1,kb.cell s5a.2.2.2.2.2.2.2.2.2.2.2.2.2.2.2.1,kb.cell s5a.2.2.2.2.2.2.2.2.2.2.2.2.2.2.2.2.1,by simp [go_sem],by simp [go_sem],by simp [go_sem],by simp [go_sem],by simp [go_sem],by simp [go_sem],by simp [go_sem],by simp [go_sem],by simp [go_sem],by simp [go_sem],by simp [go_sem],by simp [go_sem],s5a.2.2.2.2.2.2.2.2.2.2.2.2.2.2.2.2.2.trans kb⟩
 have OR5:=Lib.hid (o5.keep kb)
 have I5:=Lib.hid (And.intro o5.R.z (And.intro (fun g e=>(World.ownsRow.lt o5.M.ot g e).2) (And.intro (fun g e=>(World.ownsRow.lt o5.M.or g e).2) (fun g e=>(World.ownsRow.lt o5.M.od g e).2))))
 have K45:Kp w4 (w5.alloc (.cells #[.slice (some ⟨g1b,0,none⟩) nt nt,.slice (some ⟨g2b,0,none⟩) nk nk,.int .i64 a,.int .i64 b,.int .i64 c,.int .i64 d,.int .i64 e,.int .i64 W,.int .i64 H,.slice A1b mt c1b,.slice A2b mr c2b,.slice A3b md c3b] 47)):=k5.trans kb
 have hz45:=k5.size
 clear s4 k5 o5 s5a kb
 go_wp2_with fail
 generalize hW5:w5.alloc (.cells #[.slice (some ⟨g1b,0,none⟩) nt nt,.slice (some ⟨g2b,0,none⟩) nk nk,.int .i64 a,.int .i64 b,.int .i64 c,.int .i64 d,.int .i64 e,.int .i64 W,.int .i64 H,.slice A1b mt c1b,.slice A2b mr c2b,.slice A3b md c3b] 47)=W5 at *
 have hz5:W5.heap.size=w5.heap.size+1:=by rw [← hW5];simp
 clear hW5
 refine(toState_any T Z _ us mu _ (LA.out.keep s5.2.2.2.2.2.2.2.2.2.2.2.2.2.2.2.2.2.2.2.2.2.2.2.2.2.2.2.2.2) HE4.out).mono ?_
 rintro e6 w6 ⟨gub,rfl,o6,k6⟩
 have s6a:=keep29k k6 s5
 have kc:Kp w6 (w6.alloc (.cells #[.int .i64 T,.int .i64 Z,.slice (some ⟨gub,0,none⟩) mu mu] 51)):=(Kp.refl w6).alloc _
 have s6:cb12 (w6.alloc (.cells #[.int .i64 T,.int .i64 Z,.slice (some ⟨gub,0,none⟩) mu mu] 51)) (w.heap.size) (.slice At nt ct) (.slice Ak nk ck) (.int .i64 a) (.int .i64 b) (.int .i64 c) (.int .i64 d) (.int .i64 e) (.int .i64 W) (.int .i64 H) (x) (r) (y) (cb3 (w6.alloc (.cells #[.int .i64 T,.int .i64 Z,.slice (some ⟨gub,0,none⟩) mu mu] 51)) (w.heap.size+1) (.int .i64 T) (.int .i64 Z) (u) (cb2 (w6.alloc (.cells #[.int .i64 T,.int .i64 Z,.slice (some ⟨gub,0,none⟩) mu mu] 51)) (w.heap.size+1+1) (.int .i64 sd) (v) (cb12 (w6.alloc (.cells #[.int .i64 T,.int .i64 Z,.slice (some ⟨gub,0,none⟩) mu mu] 51)) (w5.heap.size) (.slice (some ⟨g1b,0,none⟩) nt nt) (.slice (some ⟨g2b,0,none⟩) nk nk) (.int .i64 a) (.int .i64 b) (.int .i64 c) (.int .i64 d) (.int .i64 e) (.int .i64 W) (.int .i64 H) (.slice A1b mt c1b) (.slice A2b mr c2b) (.slice A3b md c3b) (cb3 (w6.alloc (.cells #[.int .i64 T,.int .i64 Z,.slice (some ⟨gub,0,none⟩) mu mu] 51)) (w6.heap.size) (.int .i64 T) (.int .i64 Z) (.slice (some ⟨gub,0,none⟩) mu mu) (Kp w (w6.alloc (.cells #[.int .i64 T,.int .i64 Z,.slice (some ⟨gub,0,none⟩) mu mu] 51))))))):=⟨kc.cell s6a.1,kc.cell s6a.2.1,kc.cell s6a.2.2.1,kc.cell s6a.2.2.2.1,kc.cell s6a.2.2.2.2.1,kc.cell s6a.2.2.2.2.2.1,kc.cell s6a.2.2.2.2.2.2.1,kc.cell s6a.2.2.2.2.2.2.2.1,kc.cell s6a.2.2.2.2.2.2.2.2.1,kc.cell s6a.2.2.2.2.2.2.2.2.2.1,kc.cell s6a.2.2.2.2.2.2.2.2.2.2.1,kc.cell s6a.2.2.2.2.2.2.2.2.2.2.2.1,kc.cell s6a.2.2.2.2.2.2.2.2.2.2.2.2.1,kc.cell s6a.2.2.2.2.2.2.2.2.2.2.2.2.2.1,kc.cell s6a.2.2.2.2.2.2.2.2.2.2.2.2.2.2.1,kc.cell s6a.2.2.2.2.2.2.2.2.2.2.2.2.2.2.2.1,kc.cell s6a.2.2.2.2.2.2.2.2.2.2.2.2.2.2.2.2.1,kc.cell s6a.2.2.2.2.2.2.2.2.2.2.2.2.2.2.2.2.2.1,kc.cell s6a.2.2.2.2.2.2.2.2.2.2.2.2.2.2.2.2.2.2.1,kc.cell s6a.2.2.2.2.2.2.2.2.2.2.2.2.2.2.2.2.2.2.2.1,kc.cell s6a.2.2.2.2.2.2.2.2.2.2.2.2.2.2.2.2.2.2.2.2.1,kc.cell s6a.2.2.2.2.2.2.2.2.2.2.2.2.2.2.2.2.2.2.2.2.2.1,kc.cell s6a.2.2.2.2.2.2.2.2.2.2.2.2.2.2.2.2.2.2.2.2.2.2.1,kc.cell s6a.2.2.2.2.2.2.2.2.2.2.2.2.2.2.2.2.2.2.2.2.2.2.2.1,kc.cell s6a.2.2.2.2.2.2.2.2.2.2.2.2.2.2.2.2.2.2.2.2.2.2.2.2.1,kc.cell s6a.2.2.2.2.2.2.2.2.2.2.2.2.2.2.2.2.2.2.2.2.2.2.2.2.2.1,kc.cell s6a.2.2.2.2.2.2.2.2.2.2.2.2.2.2.2.2.2.2.2.2.2.2.2.2.2.2.1,kc.cell s6a.2.2.2.2.2.2.2.2.2.2.2.2.2.2.2.2.2.2.2.2.2.2.2.2.2.2.2.1,kc.cell s6a.2.2.2.2.2.2.2.2.2.2.2.2.2.2.2.2.2.2.2.2.2.2.2.2.2.2.2.2.1,by simp [go_sem],by simp [go_sem],by simp [go_sem],s6a.2.2.2.2.2.2.2.2.2.2.2.2.2.2.2.2.2.2.2.2.2.2.2.2.2.2.2.2.2.trans kc⟩
 have OR6:=Lib.hid (OR5.out.keep (k6.trans kc))
 have OM6:=Lib.hid (o6.keep kc)
 have I6:=Lib.hid (fun g e=>(World.ownsRow.lt o6 g e).2)
 have K46:Kp w4 (w6.alloc (.cells #[.int .i64 T,.int .i64 Z,.slice (some ⟨gub,0,none⟩) mu mu] 51)):=K45.trans (k6.trans kc)
 have hz6:=k6.size
 clear s5 k6 o6 s6a kc OR5 K45
 go_wp2_with fail
 generalize hW6:w6.alloc (.cells #[.int .i64 T,.int .i64 Z,.slice (some ⟨gub,0,none⟩) mu mu] 51)=W6 at *
 have hz6':W6.heap.size=w6.heap.size+1:=by rw [← hW6];simp
 clear hW6
 refine(CT.out _ (HP.out.keep s6.2.2.2.2.2.2.2.2.2.2.2.2.2.2.2.2.2.2.2.2.2.2.2.2.2.2.2.2.2.2.2.2)).mono ?_
 rintro e61 w61 ⟨gob,csob,ysob,rfl,hcob,o61,hglb,hgub,k61⟩
 have s61a:=keep32k k61 s6
 have kd:Kp w61 (w61.alloc (.cells #[.int .i64 sd,.slice (some ⟨gob,0,none⟩) xs.length xs.length] 67)):=(Kp.refl w61).alloc _
 have s61:cb12 (w61.alloc (.cells #[.int .i64 sd,.slice (some ⟨gob,0,none⟩) xs.length xs.length] 67)) (w.heap.size) (.slice At nt ct) (.slice Ak nk ck) (.int .i64 a) (.int .i64 b) (.int .i64 c) (.int .i64 d) (.int .i64 e) (.int .i64 W) (.int .i64 H) (x) (r) (y) (cb3 (w61.alloc (.cells #[.int .i64 sd,.slice (some ⟨gob,0,none⟩) xs.length xs.length] 67)) (w.heap.size+1) (.int .i64 T) (.int .i64 Z) (u) (cb2 (w61.alloc (.cells #[.int .i64 sd,.slice (some ⟨gob,0,none⟩) xs.length xs.length] 67)) (w.heap.size+1+1) (.int .i64 sd) (v) (cb12 (w61.alloc (.cells #[.int .i64 sd,.slice (some ⟨gob,0,none⟩) xs.length xs.length] 67)) (w5.heap.size) (.slice (some ⟨g1b,0,none⟩) nt nt) (.slice (some ⟨g2b,0,none⟩) nk nk) (.int .i64 a) (.int .i64 b) (.int .i64 c) (.int .i64 d) (.int .i64 e) (.int .i64 W) (.int .i64 H) (.slice A1b mt c1b) (.slice A2b mr c2b) (.slice A3b md c3b) (cb3 (w61.alloc (.cells #[.int .i64 sd,.slice (some ⟨gob,0,none⟩) xs.length xs.length] 67)) (w6.heap.size) (.int .i64 T) (.int .i64 Z) (.slice (some ⟨gub,0,none⟩) mu mu) (cb2 (w61.alloc (.cells #[.int .i64 sd,.slice (some ⟨gob,0,none⟩) xs.length xs.length] 67)) (w61.heap.size) (.int .i64 sd) (.slice (some ⟨gob,0,none⟩) xs.length xs.length) (Kp w (w61.alloc (.cells #[.int .i64 sd,.slice (some ⟨gob,0,none⟩) xs.length xs.length] 67)))))))):=⟨kd.cell s61a.1,kd.cell s61a.2.1,kd.cell s61a.2.2.1,kd.cell s61a.2.2.2.1,kd.cell s61a.2.2.2.2.1,kd.cell s61a.2.2.2.2.2.1,kd.cell s61a.2.2.2.2.2.2.1,kd.cell s61a.2.2.2.2.2.2.2.1,kd.cell s61a.2.2.2.2.2.2.2.2.1,kd.cell s61a.2.2.2.2.2.2.2.2.2.1,kd.cell s61a.2.2.2.2.2.2.2.2.2.2.1,kd.cell s61a.2.2.2.2.2.2.2.2.2.2.2.1,kd.cell s61a.2.2.2.2.2.2.2.2.2.2.2.2.1,kd.cell s61a.2.2.2.2.2.2.2.2.2.2.2.2.2.1,kd.cell s61a.2.2.2.2.2.2.2.2.2.2.2.2.2.2.1,kd.cell s61a.2.2.2.2.2.2.2.2.2.2.2.2.2.2.2.1,kd.cell s61a.2.2.2.2.2.2.2.2.2.2.2.2.2.2.2.2.1,kd.cell s61a.2.2.2.2.2.2.2.2.2.2.2.2.2.2.2.2.2.1,kd.cell s61a.2.2.2.2.2.2.2.2.2.2.2.2.2.2.2.2.2.2.1,kd.cell s61a.2.2.2.2.2.2.2.2.2.2.2.2.2.2.2.2.2.2.2.1,kd.cell s61a.2.2.2.2.2.2.2.2.2.2.2.2.2.2.2.2.2.2.2.2.1,kd.cell s61a.2.2.2.2.2.2.2.2.2.2.2.2.2.2.2.2.2.2.2.2.2.1,kd.cell s61a.2.2.2.2.2.2.2.2.2.2.2.2.2.2.2.2.2.2.2.2.2.2.1,kd.cell s61a.2.2.2.2.2.2.2.2.2.2.2.2.2.2.2.2.2.2.2.2.2.2.2.1,kd.cell s61a.2.2.2.2.2.2.2.2.2.2.2.2.2.2.2.2.2.2.2.2.2.2.2.2.1,kd.cell s61a.2.2.2.2.2.2.2.2.2.2.2.2.2.2.2.2.2.2.2.2.2.2.2.2.2.1,kd.cell s61a.2.2.2.2.2.2.2.2.2.2.2.2.2.2.2.2.2.2.2.2.2.2.2.2.2.2.1,kd.cell s61a.2.2.2.2.2.2.2.2.2.2.2.2.2.2.2.2.2.2.2.2.2.2.2.2.2.2.2.1,kd.cell s61a.2.2.2.2.2.2.2.2.2.2.2.2.2.2.2.2.2.2.2.2.2.2.2.2.2.2.2.2.1,kd.cell s61a.2.2.2.2.2.2.2.2.2.2.2.2.2.2.2.2.2.2.2.2.2.2.2.2.2.2.2.2.2.1,kd.cell s61a.2.2.2.2.2.2.2.2.2.2.2.2.2.2.2.2.2.2.2.2.2.2.2.2.2.2.2.2.2.2.1,kd.cell s61a.2.2.2.2.2.2.2.2.2.2.2.2.2.2.2.2.2.2.2.2.2.2.2.2.2.2.2.2.2.2.2.1,by simp [go_sem],by simp [go_sem],s61a.2.2.2.2.2.2.2.2.2.2.2.2.2.2.2.2.2.2.2.2.2.2.2.2.2.2.2.2.2.2.2.2.trans kd⟩
 have OR7:=Lib.hid (OR6.out.keep (k61.trans kd))
 have OM7:=Lib.hid (OM6.out.keep (k61.trans kd))
 have OP7:=Lib.hid (o61.keep kd)
 have I61:=Lib.hid (o61.hi hcob)
 have K47:Kp w4 (w61.alloc (.cells #[.int .i64 sd,.slice (some ⟨gob,0,none⟩) xs.length xs.length] 67)):=K46.trans (k61.trans kd)
 have hz61:=k61.size
 clear s6 k61 o61 s61a kd OR6 OM6 K46
 go_wp2_with fail
 generalize hW7:w61.alloc (.cells #[.int .i64 sd,.slice (some ⟨gob,0,none⟩) xs.length xs.length] 67)=W7 at *
 have hz7':W7.heap.size=w61.heap.size+1:=by rw [← hW7];simp
 clear hW7
 refine(CI.out _ _ _ _ _ _ _ _ _ _ (OR7.out.at RA.out) (OM7.out.sta LA.out) (OP7.out.she hcob) (HS0.out.keep s61.2.2.2.2.2.2.2.2.2.2.2.2.2.2.2.2.2.2.2.2.2.2.2.2.2.2.2.2.2.2.2.2.2.2) (HS1.out.keep s61.2.2.2.2.2.2.2.2.2.2.2.2.2.2.2.2.2.2.2.2.2.2.2.2.2.2.2.2.2.2.2.2.2.2) (HS2.out.keep s61.2.2.2.2.2.2.2.2.2.2.2.2.2.2.2.2.2.2.2.2.2.2.2.2.2.2.2.2.2.2.2.2.2.2) (HEr.out.keep s61.2.2.2.2.2.2.2.2.2.2.2.2.2.2.2.2.2.2.2.2.2.2.2.2.2.2.2.2.2.2.2.2.2.2) (HEd.out.keep s61.2.2.2.2.2.2.2.2.2.2.2.2.2.2.2.2.2.2.2.2.2.2.2.2.2.2.2.2.2.2.2.2.2.2)).mono ?_
 rintro e7 w7 ⟨vv,rfl,o7,k7⟩
 have s7:=keep34k k7 s61
 have O6':=Lib.hid o7
 have OR7':=Lib.hid (OR7.out.keep k7)
 have OM7':=Lib.hid (OM7.out.keep k7)
 have OP7':=Lib.hid (OP7.out.keep k7)
 have K47':Kp w4 w7:=K47.trans k7
 have hz7:=k7.size
 clear s61 k7 o7 OR7 OM7 OP7 K47
 go_wp2_with fail
 refine(eqIntS_same vv v0 L _ O6'.out.rd (R0.out.keep K47') (by omega)).mono ?_
 rintro e8 w8 ⟨rfl,k8⟩
 have s8a:=keep34k k8 s7
 have O7:=Lib.hid (O6'.out.keep k8)
 have OR8:=Lib.hid (OR7'.out.keep k8)
 have OM8:=Lib.hid (OM7'.out.keep k8)
 have OP8:=Lib.hid (OP7'.out.keep k8)
 have K48:Kp w4 w8:=K47'.trans k8
 have hz8:=k8.size
 clear s7 k8 O6' OR7' OM7' OP7' K47'
 go_wp2_with fail
 have s8:=drew34k s8a
 clear s8a
 go_wp2_with fail
 go_region_held3 (fun w'=>cb12 w' (w.heap.size) (.slice At nt ct) (.slice Ak nk ck) (.int .i64 a) (.int .i64 b) (.int .i64 c) (.int .i64 d) (.int .i64 e) (.int .i64 W) (.int .i64 H) (x) (r) (y) (cb3 w' (w.heap.size+1) (.int .i64 T) (.int .i64 Z) (u) (cb2 w' (w.heap.size+1+1) (.int .i64 sd) (v) (cb12 w' (w5.heap.size) (.slice (some ⟨g1b,0,none⟩) nt nt) (.slice (some ⟨g2b,0,none⟩) nk nk) (.int .i64 a) (.int .i64 b) (.int .i64 c) (.int .i64 d) (.int .i64 e) (.int .i64 W) (.int .i64 H) (.slice A1b mt c1b) (.slice A2b mr c2b) (.slice A3b md c3b) (cb3 w' (w6.heap.size) (.int .i64 T) (.int .i64 Z) (.slice (some ⟨gub,0,none⟩) mu mu) (cb2 w' (w61.heap.size) (.int .i64 sd) (.slice (some ⟨gob,0,none⟩) xs.length xs.length) (Kp w w'))))))) (first | assumption | exact s8)
  (first
   | (go_at_call 18;refine(toBoard_any _ _ _ _ _ _ l m _ _ _ _ _ _ _ _ _ _ lt lr ld mt mr md _ (RA.out.keep s8.2.2.2.2.2.2.2.2.2.2.2.2.2.2.2.2.2.2.2.2.2.2.2.2.2.2.2.2.2.2.2.2.2.2) HE1.out HE2.out HE3.out).mono ?_;rintro e9 w9 ⟨g1c,g2c,csc,ysc,zsc,A1c,c1c,A2c,c2c,A3c,c3c,rfl,o9,k9⟩;have s9:=keep34k k9 s8;have L9:=Lib.hid (o9.at RA.out);have M9:=Lib.hid ((OR8.out.keep ((Kp.refl _).drew)).keep k9);have N9:=Lib.hid (M9.out.at RA.out);have k89:=Lib.hid ((Kp.refl w8).drew.trans k9))
   | (go_at_call 22;refine(eqBoard_same _ _ _ _ _ _ _ _ _ _ l m _ _ _ _ _ _ _ _ _ _ _ _ _ lt lr ld _ N9.out L9.out).mono ?_;rintro e10 w10 ⟨rfl,k10⟩;have s10a:=keep34k k10 s9;have ORa:=Lib.hid (M9.out.keep k10);have k8a:=Lib.hid (k89.out.trans k10)))
 have Oa:=Lib.hid (O7.out.keep k8a.out)
 have OMa:=Lib.hid (OM8.out.keep k8a.out)
 have OPa:=Lib.hid (OP8.out.keep k8a.out)
 have K4a:Kp w4 w10:=K48.trans k8a.out
 have hza:=k8a.out.size
 clear s8 s9 L9 M9 N9 k89 k8a OR8 OM8 OP8 K48 O7
 have s10:=drew34k s10a
 clear s10a
 go_wp2_with fail
 go_region_held3 (fun w'=>cb12 w' (w.heap.size) (.slice At nt ct) (.slice Ak nk ck) (.int .i64 a) (.int .i64 b) (.int .i64 c) (.int .i64 d) (.int .i64 e) (.int .i64 W) (.int .i64 H) (x) (r) (y) (cb3 w' (w.heap.size+1) (.int .i64 T) (.int .i64 Z) (u) (cb2 w' (w.heap.size+1+1) (.int .i64 sd) (v) (cb12 w' (w5.heap.size) (.slice (some ⟨g1b,0,none⟩) nt nt) (.slice (some ⟨g2b,0,none⟩) nk nk) (.int .i64 a) (.int .i64 b) (.int .i64 c) (.int .i64 d) (.int .i64 e) (.int .i64 W) (.int .i64 H) (.slice A1b mt c1b) (.slice A2b mr c2b) (.slice A3b md c3b) (cb3 w' (w6.heap.size) (.int .i64 T) (.int .i64 Z) (.slice (some ⟨gub,0,none⟩) mu mu) (cb2 w' (w61.heap.size) (.int .i64 sd) (.slice (some ⟨gob,0,none⟩) xs.length xs.length) (Kp w w'))))))) (first | assumption | exact s10)
  (first
   | (go_at_call 19;refine(toState_any T Z _ us mu _ (LA.out.keep s10.2.2.2.2.2.2.2.2.2.2.2.2.2.2.2.2.2.2.2.2.2.2.2.2.2.2.2.2.2.2.2.2.2.2) HE4.out).mono ?_;rintro e11 w11 ⟨guc,rfl,o11,k11⟩;have s11:=keep34k k11 s10;have L11:=Lib.hid (o11.sta LA.out);have M11:=Lib.hid ((OMa.out.keep ((Kp.refl _).drew)).keep k11);have N11:=Lib.hid (M11.out.sta LA.out);have kab:=Lib.hid ((Kp.refl w10).drew.trans k11))
   | (go_at_call 23;refine(eqState_same T Z _ _ us _ N11.out L11.out).mono ?_;rintro e12 w12 ⟨rfl,k12⟩;have s12a:=keep34k k12 s11;have OMb:=Lib.hid (M11.out.keep k12);have kac:=Lib.hid (kab.out.trans k12)))
 have Ob:=Lib.hid (Oa.out.keep kac.out)
 have ORb:=Lib.hid (ORa.out.keep kac.out)
 have OPb:=Lib.hid (OPa.out.keep kac.out)
 have K4b:Kp w4 w12:=K4a.trans kac.out
 have hzb:=kac.out.size
 clear s10 s11 L11 M11 N11 kab kac Oa ORa OMa OPa K4a
 have s12:=drew34k s12a
 clear s12a
 go_wp2_with fail
 go_region_held3 (fun w'=>cb12 w' (w.heap.size) (.slice At nt ct) (.slice Ak nk ck) (.int .i64 a) (.int .i64 b) (.int .i64 c) (.int .i64 d) (.int .i64 e) (.int .i64 W) (.int .i64 H) (x) (r) (y) (cb3 w' (w.heap.size+1) (.int .i64 T) (.int .i64 Z) (u) (cb2 w' (w.heap.size+1+1) (.int .i64 sd) (v) (cb12 w' (w5.heap.size) (.slice (some ⟨g1b,0,none⟩) nt nt) (.slice (some ⟨g2b,0,none⟩) nk nk) (.int .i64 a) (.int .i64 b) (.int .i64 c) (.int .i64 d) (.int .i64 e) (.int .i64 W) (.int .i64 H) (.slice A1b mt c1b) (.slice A2b mr c2b) (.slice A3b md c3b) (cb3 w' (w6.heap.size) (.int .i64 T) (.int .i64 Z) (.slice (some ⟨gub,0,none⟩) mu mu) (cb2 w' (w61.heap.size) (.int .i64 sd) (.slice (some ⟨gob,0,none⟩) xs.length xs.length) (Kp w w'))))))) (first | assumption | exact s12)
  (first
   | (go_at_call 27;refine(CT.out _ (HP.out.keep s12.2.2.2.2.2.2.2.2.2.2.2.2.2.2.2.2.2.2.2.2.2.2.2.2.2.2.2.2.2.2.2.2.2.2)).mono ?_;rintro e13 w13 ⟨god,csod,ysod,rfl,hcod,o13,hgld,hgud,k13⟩;have s13:=keep34k k13 s12;have L13:=Lib.hid (OwnOd.she o13 hcod);have M13:=Lib.hid ((OPb.out.keep ((Kp.refl _).drew)).keep k13);have N13:=Lib.hid (OwnOd.she M13.out hcob);have kbc:=Lib.hid ((Kp.refl w12).drew.trans k13))
   | (go_at_call 29;refine(eqSheet_same sd _ _ xs _ N13.out L13.out HPL.out).mono ?_;rintro e14 w14 ⟨rfl,k14⟩;have s14:=keep34k k14 s13;have OPc:=Lib.hid (M13.out.keep k14);have kbd:=Lib.hid (kbc.out.trans k14)))
 have Oc:=Lib.hid (Ob.out.keep kbd.out)
 have ORc:=Lib.hid (ORb.out.keep kbd.out)
 have OMc:=Lib.hid (OMb.out.keep kbd.out)
 have K4c:Kp w4 w14:=K4b.trans kbd.out
 have hzc:=kbd.out.size
 have hz4c:=K4c.size
 clear s12 s13 L13 M13 N13 kbc kbd Ob ORb OMb OPb K4b
 go_wp2_with fail
 refine(markBoard_u w4.heap.size _ _ _ _ l m _ _ _ _ _ _ _ _ _ _ 1 _ _ _ lt lr ld _ ORc.out RA.out.R.bt RA.out.R.bk (fun x hx=>(RA.out.R.bc x hx).1) SM.out.2 (by omega) w5.heap.size (by omega) I5.out.1 I5.out.2.1 I5.out.2.2.1 I5.out.2.2.2 (by omega) (by omega)).mono ?_
 rintro e15 w15 ⟨kk,rfl,y15,z15,m15⟩
 have c15:ce3 w15 (w6.heap.size) (.int .i64 T) (.int .i64 Z) (.slice (some ⟨gub,0,none⟩) mu mu):=⟨m15.cell_hi (by omega) s14.2.2.2.2.2.2.2.2.2.2.2.2.2.2.2.2.2.2.2.2.2.2.2.2.2.2.2.2.2.1,m15.cell_hi (by omega) s14.2.2.2.2.2.2.2.2.2.2.2.2.2.2.2.2.2.2.2.2.2.2.2.2.2.2.2.2.2.2.1,m15.cell_hi (by omega) s14.2.2.2.2.2.2.2.2.2.2.2.2.2.2.2.2.2.2.2.2.2.2.2.2.2.2.2.2.2.2.2.1⟩
 have d15:ce2 w15 (w61.heap.size) (.int .i64 sd) (.slice (some ⟨gob,0,none⟩) xs.length xs.length):=⟨m15.cell_hi (by omega) s14.2.2.2.2.2.2.2.2.2.2.2.2.2.2.2.2.2.2.2.2.2.2.2.2.2.2.2.2.2.2.2.2.1,m15.cell_hi (by omega) s14.2.2.2.2.2.2.2.2.2.2.2.2.2.2.2.2.2.2.2.2.2.2.2.2.2.2.2.2.2.2.2.2.2.1⟩
 have K4d:Kp w4 w15:=m15.kp K4c (Nat.le_refl _)
 have Od:Hid (OwnI w15 W7.heap.size vv L):=Lib.hid (m15.own Oc.out (fun g hg=>by
  have h1:=(World.ownsRow.lt Oc.out g hg).1
  omega))
 have OMd:Hid (w15.ownsRow W5.heap.size 152 4 (.slice (some ⟨gub,0,none⟩) mu mu) mu (cellsU us)):=Lib.hid (by
  have h0:=m15.own OMc.out (fun g hg=>by
   have h1:=(World.ownsRow.lt OMc.out g hg).1
   omega)
  rw [HE4.out] at h0
  exact h0)
 have OPd:=Lib.hid (OPc.out.markd m15 (by omega))
 have hzd:=m15.1.size
 clear m15 Oc ORc OMc OPc K4c s14
 go_wp2_with fail
 refine(markState_own T Z _ mu W5.heap.size w6.heap.size kk _ _ (by omega) (by omega) hmu OMd.out (by omega) I6.out).mono ?_
 rintro e16 w16 ⟨rfl,o16,m16⟩
 have d16:ce2 w16 (w61.heap.size) (.int .i64 sd) (.slice (some ⟨gob,0,none⟩) xs.length xs.length):=⟨m16.cell_hi (by omega) d15.1,m16.cell_hi (by omega) d15.2⟩
 have K4e:Kp w4 w16:=m16.kp K4d (by omega)
 have Oe:Hid (OwnI w16 W7.heap.size vv L):=Lib.hid (m16.own Od.out (fun g hg=>by
  have h1:=(World.ownsRow.lt Od.out g hg).1
  omega))
 have OPe:=Lib.hid (OPd.out.markd m16 (by omega))
 have hze:=m16.1.size
 clear m16 o16 Od OMd OPd K4d c15 d15
 go_wp2_with fail
 refine(markSheet_w sd gob xs _ _ (kk+4*(mu:Int)) W6.heap.size w61.heap.size _ OPe.out hcob HPL.out (by omega) hgub I61.out (by omega) (by omega) (by omega)).mono ?_
 rintro e18 w18 ⟨kx,rfl,y18,z18,m18⟩
 have K4f:Kp w4 w18:=m18.kp K4e (by omega)
 have Of:Hid (OwnI w18 W7.heap.size vv L):=Lib.hid (m18.own Oe.out (fun g hg=>by
  have h1:=(World.ownsRow.lt Oe.out g hg).1
  omega))
 have hk0:¬ kx<0:=by omega
 clear m18 OPe Oe K4e d16
 go_wp2_with fail
 refine(eqIntS_same vv v0 L _ Of.out.rd (R0.out.keep K4f) (by omega)).mono ?_
 rintro e19 w19 ⟨rfl,k19⟩
 have Og:=Lib.hid (Of.out.keep k19)
 have K4g:Kp w4 w19:=K4f.trans k19
 have hz4:w4.heap.size≤W7.heap.size:=by omega
 clear Of K4f k19
 go_wp2_with fail
 refine(markIntS_own vv L.length W7.heap.size 1 (cellsI L) _ (by omega) (by omega) (by omega) Og.out).mono ?_
 rintro e20 w20 ⟨rfl,om,gm⟩
 have K4h:Kp w4 w20:=K4g.grown gm (fun k e=>Nat.le_trans hz4 (World.ownsRow.lt Og.out k e).1)
 have OM:=Lib.hid om
 have hne:((1+(L.length:Int)) != (1+(L.length:Int)))=false:=by simp
 clear om gm Og K4g
 go_wp2_with fail
 refine(heldIntS_own vv L.length W7.heap.size 1 _ (by omega) (by omega) (by omega) OM.out).mono ?_
 rintro e21 w21 ⟨rfl,k21⟩
 have OM2:=Lib.hid (ownsRow_keep OM.out k21)
 have K4i:Kp w4 w21:=K4h.trans k21
 have s21:=keep17k K4i HS4.out
 clear K4h k21 OM HS4
 go_wp2_with fail
 have s21d:=drew17k s21
 go_region_held3 (fun w'=>cb12 w' (w.heap.size) (.slice At nt ct) (.slice Ak nk ck) (.int .i64 a) (.int .i64 b) (.int .i64 c) (.int .i64 d) (.int .i64 e) (.int .i64 W) (.int .i64 H) (x) (r) (y) (cb3 w' (w.heap.size+1) (.int .i64 T) (.int .i64 Z) (u) (cb2 w' (w.heap.size+1+1) (.int .i64 sd) (v) (Kp w w')))) (first | assumption | exact s21d)
  (first
   | (go_at_call 18;refine(toBoard_any _ _ _ _ _ _ l m _ _ _ _ _ _ _ _ _ _ lt lr ld mt mr md _ (RA.out.keep s21d.2.2.2.2.2.2.2.2.2.2.2.2.2.2.2.2.2) HE1.out HE2.out HE3.out).mono ?_;rintro e22 w22 ⟨g1d,g2d,csd,ysd,zsd,A1d,c1d,A2d,c2d,A3d,c3d,rfl,o22,k22⟩;have s22:=keep17k k22 s21d;have R22:=Lib.hid (o22.at RA.out);have K22:=Lib.hid ((Kp.refl w21).drew.trans k22))
   | (go_at_call 19;refine(toState_any T Z _ us mu _ (LA.out.keep s22.2.2.2.2.2.2.2.2.2.2.2.2.2.2.2.2.2) HE4.out).mono ?_;rintro e23 w23 ⟨gud,rfl,o23,k23⟩;have s23:=keep17k k23 s22;have B23:=Lib.hid (R22.out.keep k23);have S23:=Lib.hid (o23.sta LA.out);have K23:=Lib.hid (K22.out.trans k23))
   | (go_at_call 27;refine(CT.out _ (HP.out.keep s23.2.2.2.2.2.2.2.2.2.2.2.2.2.2.2.2.2)).mono ?_;rintro e24 w24 ⟨goe,csoe,ysoe,rfl,hcoe,o24,hgle,hgue,k24⟩;have s24:=keep17k k24 s23;have B24:=Lib.hid (B23.out.keep k24);have S24:=Lib.hid (S23.out.keep k24);have R24:=Lib.hid (OwnOd.she o24 hcoe);have K24:=Lib.hid (K23.out.trans k24))
   | (go_at_call 46;refine(CI.out _ _ _ _ _ _ _ _ _ _ B24.out S24.out R24.out (HS0.out.keep s24.2.2.2.2.2.2.2.2.2.2.2.2.2.2.2.2.2) (HS1.out.keep s24.2.2.2.2.2.2.2.2.2.2.2.2.2.2.2.2.2) (HS2.out.keep s24.2.2.2.2.2.2.2.2.2.2.2.2.2.2.2.2.2) (HEr.out.keep s24.2.2.2.2.2.2.2.2.2.2.2.2.2.2.2.2.2) (HEd.out.keep s24.2.2.2.2.2.2.2.2.2.2.2.2.2.2.2.2.2)).mono ?_;rintro e25 w25 ⟨v2',rfl,o25,k25⟩;have s25:=keep17k k25 s24;have O25:=Lib.hid o25;have K25:=Lib.hid (K24.out.trans k25)))
 have K25':Kp w21 w25:=K25.out
 have Kw:Kp w w25:=s25.2.2.2.2.2.2.2.2.2.2.2.2.2.2.2.2.2
 clear s21 s21d s22 s23 s24 s25 R22 B23 S23 B24 S24 R24 K22 K23 K24 K25
 go_wp2_with fail
 refine(eqIntS_same v2' v0 L _ O25.out.rd (R0.out.keep (K4i.trans K25')) (by omega)).mono ?_
 rintro e26 w26 ⟨rfl,k26⟩
 have OM3:=Lib.hid (ownsRow_keep OM2.out (K25'.trans k26))
 have Kx:Kp w w26:=Kw.trans k26
 clear OM2 K25' Kw O25 k26
 go_wp2_with fail
 refine(heldIntS_own vv L.length W7.heap.size 1 _ (by omega) (by omega) (by omega) OM3.out).mono ?_
 rintro e27 w27 ⟨rfl,k27⟩
 go_wp2_with fail
 go_ret
 exact⟨rfl,Kx.trans k27⟩
set_option maxRecDepth 100000 in
theorem contract (H:Type) (enc:TypeId × Value→H) (W:World) (base:Nat) (args:Array Value) (ds gs:List (DataW H)) (before:List MemPlace)
  (hval:∀ (j:Nat) t v,Tryz.f10.params[j]?=some t→args[j]?=some v→Value.okWide Tryz.prog W .any base t v)
  (hW:DataW.Whole enc Tryz.prog Tryz.f10.params.toList Rows.fnExactAttacksOnSpec.vars false W args.toList ds gs before) (hL:laidMetH Tryz.prog Rows.fnExactAttacksOnRow.laid W) :
  Calls Tryz.prog 10 args W fun e W'=>∃ v,e=.returned v∧Rows.fnExactAttacksOnSpec.post enc Tryz.prog Tryz.f10 false true false false W args v W':=by
 have hW':=hW
 obtain⟨p,q,hA0,hV,rfl,hfz,hnd⟩:=hW
 have hA:DataW.TrodAll enc Tryz.prog W 0 (fun _=>true) true Tryz.f10.params.toList args.toList ds p:=hA0
 rw [Tryz.params10] at hA hval
 obtain⟨v0,v1,v2,v3,d0,d1,d2,d3,p0,p1,p2,p3,rfl,rfl,rfl,h0,h1,h2,h3⟩:=trodAll_four hA
 obtain⟨_,_,_,_,_,_,_,_,_,_,_,_,_,_,_,_,_,_,_,_,_,_,_,rfl⟩:=lenv23 (trodVars_len hV)
 obtain⟨At0,Ak0,nt0,nk0,ct0,ck0,l0,m0,a0,b0,c0,d0,e0,W0,H0,x0,r0,y0,lt0,lr0,ld0,rfl,hR0,hI0⟩:=open_board (hval 0 30 v0 rfl rfl) h0
 obtain⟨T0,Z0,u0,us0,rfl,hR1,_,_⟩:=open_state (hval 1 33 v1 rfl rfl) h1
 obtain⟨ou2,ox2,ol2,rfl,hP2,hQ2,hQc2,_⟩:=open_sheet (hval 2 61 v2 rfl rfl) h2
 obtain⟨n3,rfl,_,_,wf3⟩:=open_int Tryz.underlying3 (hval 3 3 v3 rfl rfl) h3
 obtain⟨a1,a2,a3,a4,a5,hEr,hEd⟩:=laid23_err hL
 refine(walk At0 Ak0 nt0 nk0 ct0 ck0 l0 m0 a0 b0 c0 d0 e0 W0 H0 x0 r0 y0 lt0 lr0 ld0 T0 Z0 u0 us0 n3 ou2 ox2 ol2 a1 a2 a3 a4 a5 W (laid23_sp hL) (laid23_tab hL) (laid23_un hL) hEr hEd hR0 hR1 hP2 hQ2 hQc2).mono fun e W' ⟨he,hg⟩=>?_
 subst he
 exact⟨_,rfl,law_post hW' laidOut (by kernel_rfl) (by kernel_rfl) (by kernel_rfl) Tryz.underlying4 rfl hg⟩
theorem laid_met (os:Os):laidMet Tryz.prog Rows.fnExactAttacksOnRow.laid ((laidWorldE os).forCall (fun _ _=>0) ⟨#[],#[.agg #[.slice none 0 0,.slice none 0 0,.int .i64 0,.int .i64 0,.int .i64 0,.int .i64 0,.int .i64 0,.int .i64 0,.int .i64 0,.slice none 0 0,.slice none 0 0,.slice none 0 0],.agg #[.int .i64 0,.int .i64 0,.slice none 0 0],.agg #[.int .i64 0,.slice none 0 0],.int .i64 0],[]⟩).memory :=
 laidMet_of_run' 8 (by kernel_rfl) (by kernel_rfl)
theorem reads (os:Os) {H:Type} (enc:TypeId × Value→H):∃ ds gs places,DataW.whole enc Tryz.prog ((laidWorldE os).forCall (fun _ _=>0) ⟨#[],#[.agg #[.slice none 0 0,.slice none 0 0,.int .i64 0,.int .i64 0,.int .i64 0,.int .i64 0,.int .i64 0,.int .i64 0,.int .i64 0,.slice none 0 0,.slice none 0 0,.slice none 0 0],.agg #[.int .i64 0,.int .i64 0,.slice none 0 0],.agg #[.int .i64 0,.slice none 0 0],.int .i64 0],[]⟩).memory Tryz.f10.params.toList Rows.fnExactAttacksOnSpec.vars false #[.agg #[.slice none 0 0,.slice none 0 0,.int .i64 0,.int .i64 0,.int .i64 0,.int .i64 0,.int .i64 0,.int .i64 0,.int .i64 0,.slice none 0 0,.slice none 0 0,.slice none 0 0],.agg #[.int .i64 0,.int .i64 0,.slice none 0 0],.agg #[.int .i64 0,.slice none 0 0],.int .i64 0].toList 8=some (ds,gs,places) :=
 ⟨[.agg [.agg [.nil,.nil,.lit (.int .i64 0),.lit (.int .i64 0),.lit (.int .i64 0),.lit (.int .i64 0),.lit (.int .i64 0)],.agg [.lit (.int .i64 0),.lit (.int .i64 0),.nil,.nil,.nil]],.agg [.lit (.int .i64 0),.lit (.int .i64 0),.nil],.agg [.lit (.int .i64 0),.nil],.lit (.int .i64 0)],[Rows.laid_loop_example_g00886_impl_terrainsSpan,Rows.laid_loop_example_g00886_impl_kindsSpan,Rows.laid_loop_example_g00886_impl_stackSpan,Rows.laid_loop_example_g00886_impl_riverSpan,Rows.laid_loop_example_g00886_impl_roadSpan,Rows.laid_loop_example_g00886_impl_supplySpan,Rows.laid_loop_example_g00886_impl_turnsSpan,Rows.laid_loop_example_g00886_impl_costSpan,Rows.laid_loop_example_g00886_impl_shiftSpan,Rows.laid_loop_example_g00886_impl_heightSpan,Rows.laid_loop_example_g00886_impl_strengthSpan,Rows.laid_loop_example_g00886_impl_movesSpan,Rows.laid_loop_example_g00886_impl_stepsSpan,Rows.laid_loop_example_g00886_impl_viewSpan,Rows.laid_loop_example_g00886_impl_directionSteps,Rows.laid_loop_example_g00886_impl_weatherSpan,Rows.laid_loop_example_g00886_impl_unitsSpan,Rows.laid_loop_example_g00886_impl_sideSpan,.held (enc (325,.pointer (some ⟨29,0,none⟩))),.held (enc (325,.pointer (some ⟨30,0,none⟩))),.held (enc (325,.pointer (some ⟨31,0,none⟩))),.held (enc (325,.pointer (some ⟨32,0,none⟩))),.held (enc (325,.pointer (some ⟨33,0,none⟩)))],MemPlace.row ⟨10,0,none⟩ 2++(MemPlace.row ⟨11,0,none⟩ 2++(MemPlace.row ⟨12,0,none⟩ 2++(MemPlace.row ⟨13,0,none⟩ 2++(MemPlace.row ⟨14,0,none⟩ 2++(MemPlace.row ⟨15,0,none⟩ 2++(MemPlace.row ⟨16,0,none⟩ 2++(MemPlace.row ⟨17,0,none⟩ 2++(MemPlace.row ⟨18,0,none⟩ 2++(MemPlace.row ⟨19,0,none⟩ 2++(MemPlace.row ⟨20,0,none⟩ 2++(MemPlace.row ⟨21,0,none⟩ 2++(MemPlace.row ⟨22,0,none⟩ 2++(MemPlace.row ⟨23,0,none⟩ 2++(MemPlace.row ⟨9,0,none⟩ 12++(MemPlace.row ⟨8,0,none⟩ 2++(MemPlace.row ⟨6,0,none⟩ 2++(MemPlace.row ⟨0,0,none⟩ 2++(MemPlace.row ⟨1,0,none⟩ 1++(MemPlace.row ⟨2,0,none⟩ 1++(MemPlace.row ⟨3,0,none⟩ 1++(MemPlace.row ⟨4,0,none⟩ 1++(MemPlace.row ⟨5,0,none⟩ 1)))))))))))))))))))))),by kernel_rfl⟩
set_option maxRecDepth 100000 in
theorem lifted (os:Os) (started:os.Started) (H:Type) (enc:TypeId × Value→H) (F:Stop.Interp) :
  ReturnsInHanded {} Tryz.checked os 10 .any ((OpenSpec.ofChange Rows.fnExactAttacksOnSpec).preRow enc Tryz.prog Tryz.f10 Rows.fnExactAttacksOnRow.domain false Rows.fnExactAttacksOnRow.laid) (((OpenSpec.ofChange Rows.fnExactAttacksOnSpec).at F).post enc Tryz.prog Tryz.f10 false true false false):=by
 obtain⟨ds,gs,places,hx⟩:=reads os enc
 refine returnsInHanded_of_row (C:=Tryz.checked) (s:=OpenSpec.ofChange Rows.fnExactAttacksOnSpec) own started (by kernel_rfl) Tryz.func10
  (witness_row_at (enc:=enc) (C:=Tryz.checked) false (laidWorldE os) #[.agg #[.slice none 0 0,.slice none 0 0,.int .i64 0,.int .i64 0,.int .i64 0,.int .i64 0,.int .i64 0,.int .i64 0,.int .i64 0,.slice none 0 0,.slice none 0 0,.slice none 0 0],.agg #[.int .i64 0,.int .i64 0,.slice none 0 0],.agg #[.int .i64 0,.slice none 0 0],.int .i64 0] rfl (by kernel_rfl) (by kernel_rfl) (by kernel_rfl)
   (OpenSpec.preRow_of_cond 8 hx (by kernel_rfl) (fun k hk=>by cases hk) (by kernel_rfl) (laid_met os))) ?_
 intro W base args ds gs before hval hW _ _ _ hL _ _
 exact contract H enc W base args ds gs before hval hW hL
theorem said:Rows.FnExactAttacksOnSaid :=
 OpenClaim.holds_of_cond 10 Tryz.f10 rfl rfl rfl rfl rfl rfl rfl ⟨rfl,rfl,rfl,rfl,rfl⟩ rfl rfl rfl rfl rfl (by kernel_rfl) Tryz.func10 attacksOnFacts.attacksOnClosed
  (of_decide_eq_true (by kernel_rfl)) (by unfold Func.isWrapper;first | (rw [if_pos (by decide +kernel)];kernel_rfl) | (rw [if_neg (by decide +kernel)];exact⟨rfl,rfl⟩))
  (fun os started H enc _ F=>by rw [OpenClaim.pre_eq_preRow];exact lifted os started H enc F)
theorem plain (f:FuncId) (fn:Func) (hf:Tryz.pinned.checked.prog.funcNamed "loop.example/g00886/laws.FnExactAttacksOn"=some f) (hfn:Tryz.pinned.checked.prog.funcs[f]?=some fn) :
  true=Tryz.pinned.checked.prog.looks []∧∀ (j:Nat) t,fn.params[j]?=some t→Tryz.pinned.checked.prog.wantsStandIn t=false:=by
 obtain rfl:f=10:=Option.some.inj ((show Tryz.prog.funcNamed "loop.example/g00886/laws.FnExactAttacksOn"=some 10 by kernel_rfl).symm.trans hf) |>.symm
 obtain rfl:fn=Tryz.f10:=(Option.some.inj (Tryz.func10.symm.trans hfn)).symm
 refine⟨by kernel_rfl,fun j t ht=>?_⟩
 rw [Tryz.params10] at ht
 have hm:=Array.mem_of_getElem? ht
 simp only [List.mem_toArray,List.mem_cons,List.not_mem_nil,or_false] at hm
 rcases hm with rfl | rfl | rfl | rfl
 ·exact(show Tryz.prog.wantsStandIn 30=false by kernel_rfl)
 ·exact(show Tryz.prog.wantsStandIn 33=false by kernel_rfl)
 ·exact(show Tryz.prog.wantsStandIn 61=false by kernel_rfl)
 ·exact(show Tryz.prog.wantsStandIn 3=false by kernel_rfl)
theorem mainHeld:Tryz.pinned.checked.prog.mainIs=some (true,"c7c208838ead266e26f807dcdf9b44348d55f765f73050564d96046e8bf397b3".toList):=by kernel_rfl
theorem goesHeld:false=Rows.fnExactAttacksOnRow.goesBy Tryz.pinned.checked.prog:=by kernel_rfl
theorem wfHeld:Rows.fnExactAttacksOnRow.wfByText (OpenSpec.ofChange Rows.fnExactAttacksOnSpec)=true:=by kernel_rfl
/-- The card: the row, with what it lists tied to the program's text. -/
theorem card:Rows.FnExactAttacksOnCardSaid :=
 Claim7.holds_tied_plain_at .later [] _ _ _ _ said (fun _ h=>by cases h) wfHeld (fun _ h=>by cases h) fnExactAttacksOn_row_tie rfl ⟨rfl,rfl⟩ mainHeld rfl plain goesHeld
#print axioms card
end Go.Proofs.YtacgknllagdkoaaGreatDoor.attacksOnLaw
