import Derived.Test.YtgefinicjphmpaaGreatDoorFcSuppliedUnits
import Derived.Test.YtgefinicjphmpaaGreatDoorSuR
namespace Go.Proofs.YtgefinicjphmpaaGreatDoor.suppliedUnitsLaw
open Go.ChangeShapes Go.WideShapes Go.ChangeAt Go.RowKit Go.Joins
theorem keep15k {W0 w w1:World} {p0 p1 p2 p3 p4 p5 p6 p7 p8 p9 p10 p11 p12 p13 p14:Addr} {v0 v1 v2 v3 v4 v5 v6 v7 v8 v9 v10 v11 v12 v13 v14:Value} (k:Kp w w1) (h:w.cell? p0=some v0∧w.cell? p1=some v1∧w.cell? p2=some v2∧w.cell? p3=some v3∧w.cell? p4=some v4∧w.cell? p5=some v5∧w.cell? p6=some v6∧w.cell? p7=some v7∧w.cell? p8=some v8∧w.cell? p9=some v9∧w.cell? p10=some v10∧w.cell? p11=some v11∧w.cell? p12=some v12∧w.cell? p13=some v13∧w.cell? p14=some v14∧Kp W0 w):w1.cell? p0=some v0∧w1.cell? p1=some v1∧w1.cell? p2=some v2∧w1.cell? p3=some v3∧w1.cell? p4=some v4∧w1.cell? p5=some v5∧w1.cell? p6=some v6∧w1.cell? p7=some v7∧w1.cell? p8=some v8∧w1.cell? p9=some v9∧w1.cell? p10=some v10∧w1.cell? p11=some v11∧w1.cell? p12=some v12∧w1.cell? p13=some v13∧w1.cell? p14=some v14∧Kp W0 w1 :=
  ⟨k.cell h.1,k.cell h.2.1,k.cell h.2.2.1,k.cell h.2.2.2.1,k.cell h.2.2.2.2.1,k.cell h.2.2.2.2.2.1,k.cell h.2.2.2.2.2.2.1,k.cell h.2.2.2.2.2.2.2.1,k.cell h.2.2.2.2.2.2.2.2.1,k.cell h.2.2.2.2.2.2.2.2.2.1,k.cell h.2.2.2.2.2.2.2.2.2.2.1,k.cell h.2.2.2.2.2.2.2.2.2.2.2.1,k.cell h.2.2.2.2.2.2.2.2.2.2.2.2.1,k.cell h.2.2.2.2.2.2.2.2.2.2.2.2.2.1,k.cell h.2.2.2.2.2.2.2.2.2.2.2.2.2.2.1,h.2.2.2.2.2.2.2.2.2.2.2.2.2.2.2.trans k⟩
theorem drew15k {W0 w:World} {p0 p1 p2 p3 p4 p5 p6 p7 p8 p9 p10 p11 p12 p13 p14:Addr} {v0 v1 v2 v3 v4 v5 v6 v7 v8 v9 v10 v11 v12 v13 v14:Value} (h:w.cell? p0=some v0∧w.cell? p1=some v1∧w.cell? p2=some v2∧w.cell? p3=some v3∧w.cell? p4=some v4∧w.cell? p5=some v5∧w.cell? p6=some v6∧w.cell? p7=some v7∧w.cell? p8=some v8∧w.cell? p9=some v9∧w.cell? p10=some v10∧w.cell? p11=some v11∧w.cell? p12=some v12∧w.cell? p13=some v13∧w.cell? p14=some v14∧Kp W0 w):w.drew.cell? p0=some v0∧w.drew.cell? p1=some v1∧w.drew.cell? p2=some v2∧w.drew.cell? p3=some v3∧w.drew.cell? p4=some v4∧w.drew.cell? p5=some v5∧w.drew.cell? p6=some v6∧w.drew.cell? p7=some v7∧w.drew.cell? p8=some v8∧w.drew.cell? p9=some v9∧w.drew.cell? p10=some v10∧w.drew.cell? p11=some v11∧w.drew.cell? p12=some v12∧w.drew.cell? p13=some v13∧w.drew.cell? p14=some v14∧Kp W0 w.drew :=
  ⟨h.1,h.2.1,h.2.2.1,h.2.2.2.1,h.2.2.2.2.1,h.2.2.2.2.2.1,h.2.2.2.2.2.2.1,h.2.2.2.2.2.2.2.1,h.2.2.2.2.2.2.2.2.1,h.2.2.2.2.2.2.2.2.2.1,h.2.2.2.2.2.2.2.2.2.2.1,h.2.2.2.2.2.2.2.2.2.2.2.1,h.2.2.2.2.2.2.2.2.2.2.2.2.1,h.2.2.2.2.2.2.2.2.2.2.2.2.2.1,h.2.2.2.2.2.2.2.2.2.2.2.2.2.2.1,h.2.2.2.2.2.2.2.2.2.2.2.2.2.2.2.drew⟩
theorem keep27k {W0 w w1:World} {p0 p1 p2 p3 p4 p5 p6 p7 p8 p9 p10 p11 p12 p13 p14 p15 p16 p17 p18 p19 p20 p21 p22 p23 p24 p25 p26:Addr} {v0 v1 v2 v3 v4 v5 v6 v7 v8 v9 v10 v11 v12 v13 v14 v15 v16 v17 v18 v19 v20 v21 v22 v23 v24 v25 v26:Value} (k:Kp w w1) (h:w.cell? p0=some v0∧w.cell? p1=some v1∧w.cell? p2=some v2∧w.cell? p3=some v3∧w.cell? p4=some v4∧w.cell? p5=some v5∧w.cell? p6=some v6∧w.cell? p7=some v7∧w.cell? p8=some v8∧w.cell? p9=some v9∧w.cell? p10=some v10∧w.cell? p11=some v11∧w.cell? p12=some v12∧w.cell? p13=some v13∧w.cell? p14=some v14∧w.cell? p15=some v15∧w.cell? p16=some v16∧w.cell? p17=some v17∧w.cell? p18=some v18∧w.cell? p19=some v19∧w.cell? p20=some v20∧w.cell? p21=some v21∧w.cell? p22=some v22∧w.cell? p23=some v23∧w.cell? p24=some v24∧w.cell? p25=some v25∧w.cell? p26=some v26∧Kp W0 w):w1.cell? p0=some v0∧w1.cell? p1=some v1∧w1.cell? p2=some v2∧w1.cell? p3=some v3∧w1.cell? p4=some v4∧w1.cell? p5=some v5∧w1.cell? p6=some v6∧w1.cell? p7=some v7∧w1.cell? p8=some v8∧w1.cell? p9=some v9∧w1.cell? p10=some v10∧w1.cell? p11=some v11∧w1.cell? p12=some v12∧w1.cell? p13=some v13∧w1.cell? p14=some v14∧w1.cell? p15=some v15∧w1.cell? p16=some v16∧w1.cell? p17=some v17∧w1.cell? p18=some v18∧w1.cell? p19=some v19∧w1.cell? p20=some v20∧w1.cell? p21=some v21∧w1.cell? p22=some v22∧w1.cell? p23=some v23∧w1.cell? p24=some v24∧w1.cell? p25=some v25∧w1.cell? p26=some v26∧Kp W0 w1 :=
  ⟨k.cell h.1,k.cell h.2.1,k.cell h.2.2.1,k.cell h.2.2.2.1,k.cell h.2.2.2.2.1,k.cell h.2.2.2.2.2.1,k.cell h.2.2.2.2.2.2.1,k.cell h.2.2.2.2.2.2.2.1,k.cell h.2.2.2.2.2.2.2.2.1,k.cell h.2.2.2.2.2.2.2.2.2.1,k.cell h.2.2.2.2.2.2.2.2.2.2.1,k.cell h.2.2.2.2.2.2.2.2.2.2.2.1,k.cell h.2.2.2.2.2.2.2.2.2.2.2.2.1,k.cell h.2.2.2.2.2.2.2.2.2.2.2.2.2.1,k.cell h.2.2.2.2.2.2.2.2.2.2.2.2.2.2.1,k.cell h.2.2.2.2.2.2.2.2.2.2.2.2.2.2.2.1,k.cell h.2.2.2.2.2.2.2.2.2.2.2.2.2.2.2.2.1,k.cell h.2.2.2.2.2.2.2.2.2.2.2.2.2.2.2.2.2.1,k.cell h.2.2.2.2.2.2.2.2.2.2.2.2.2.2.2.2.2.2.1,k.cell h.2.2.2.2.2.2.2.2.2.2.2.2.2.2.2.2.2.2.2.1,k.cell h.2.2.2.2.2.2.2.2.2.2.2.2.2.2.2.2.2.2.2.2.1,k.cell h.2.2.2.2.2.2.2.2.2.2.2.2.2.2.2.2.2.2.2.2.2.1,k.cell h.2.2.2.2.2.2.2.2.2.2.2.2.2.2.2.2.2.2.2.2.2.2.1,k.cell h.2.2.2.2.2.2.2.2.2.2.2.2.2.2.2.2.2.2.2.2.2.2.2.1,k.cell h.2.2.2.2.2.2.2.2.2.2.2.2.2.2.2.2.2.2.2.2.2.2.2.2.1,k.cell h.2.2.2.2.2.2.2.2.2.2.2.2.2.2.2.2.2.2.2.2.2.2.2.2.2.1,k.cell h.2.2.2.2.2.2.2.2.2.2.2.2.2.2.2.2.2.2.2.2.2.2.2.2.2.2.1,h.2.2.2.2.2.2.2.2.2.2.2.2.2.2.2.2.2.2.2.2.2.2.2.2.2.2.2.trans k⟩
theorem drew27k {W0 w:World} {p0 p1 p2 p3 p4 p5 p6 p7 p8 p9 p10 p11 p12 p13 p14 p15 p16 p17 p18 p19 p20 p21 p22 p23 p24 p25 p26:Addr} {v0 v1 v2 v3 v4 v5 v6 v7 v8 v9 v10 v11 v12 v13 v14 v15 v16 v17 v18 v19 v20 v21 v22 v23 v24 v25 v26:Value} (h:w.cell? p0=some v0∧w.cell? p1=some v1∧w.cell? p2=some v2∧w.cell? p3=some v3∧w.cell? p4=some v4∧w.cell? p5=some v5∧w.cell? p6=some v6∧w.cell? p7=some v7∧w.cell? p8=some v8∧w.cell? p9=some v9∧w.cell? p10=some v10∧w.cell? p11=some v11∧w.cell? p12=some v12∧w.cell? p13=some v13∧w.cell? p14=some v14∧w.cell? p15=some v15∧w.cell? p16=some v16∧w.cell? p17=some v17∧w.cell? p18=some v18∧w.cell? p19=some v19∧w.cell? p20=some v20∧w.cell? p21=some v21∧w.cell? p22=some v22∧w.cell? p23=some v23∧w.cell? p24=some v24∧w.cell? p25=some v25∧w.cell? p26=some v26∧Kp W0 w):w.drew.cell? p0=some v0∧w.drew.cell? p1=some v1∧w.drew.cell? p2=some v2∧w.drew.cell? p3=some v3∧w.drew.cell? p4=some v4∧w.drew.cell? p5=some v5∧w.drew.cell? p6=some v6∧w.drew.cell? p7=some v7∧w.drew.cell? p8=some v8∧w.drew.cell? p9=some v9∧w.drew.cell? p10=some v10∧w.drew.cell? p11=some v11∧w.drew.cell? p12=some v12∧w.drew.cell? p13=some v13∧w.drew.cell? p14=some v14∧w.drew.cell? p15=some v15∧w.drew.cell? p16=some v16∧w.drew.cell? p17=some v17∧w.drew.cell? p18=some v18∧w.drew.cell? p19=some v19∧w.drew.cell? p20=some v20∧w.drew.cell? p21=some v21∧w.drew.cell? p22=some v22∧w.drew.cell? p23=some v23∧w.drew.cell? p24=some v24∧w.drew.cell? p25=some v25∧w.drew.cell? p26=some v26∧Kp W0 w.drew :=
  ⟨h.1,h.2.1,h.2.2.1,h.2.2.2.1,h.2.2.2.2.1,h.2.2.2.2.2.1,h.2.2.2.2.2.2.1,h.2.2.2.2.2.2.2.1,h.2.2.2.2.2.2.2.2.1,h.2.2.2.2.2.2.2.2.2.1,h.2.2.2.2.2.2.2.2.2.2.1,h.2.2.2.2.2.2.2.2.2.2.2.1,h.2.2.2.2.2.2.2.2.2.2.2.2.1,h.2.2.2.2.2.2.2.2.2.2.2.2.2.1,h.2.2.2.2.2.2.2.2.2.2.2.2.2.2.1,h.2.2.2.2.2.2.2.2.2.2.2.2.2.2.2.1,h.2.2.2.2.2.2.2.2.2.2.2.2.2.2.2.2.1,h.2.2.2.2.2.2.2.2.2.2.2.2.2.2.2.2.2.1,h.2.2.2.2.2.2.2.2.2.2.2.2.2.2.2.2.2.2.1,h.2.2.2.2.2.2.2.2.2.2.2.2.2.2.2.2.2.2.2.1,h.2.2.2.2.2.2.2.2.2.2.2.2.2.2.2.2.2.2.2.2.1,h.2.2.2.2.2.2.2.2.2.2.2.2.2.2.2.2.2.2.2.2.2.1,h.2.2.2.2.2.2.2.2.2.2.2.2.2.2.2.2.2.2.2.2.2.2.1,h.2.2.2.2.2.2.2.2.2.2.2.2.2.2.2.2.2.2.2.2.2.2.2.1,h.2.2.2.2.2.2.2.2.2.2.2.2.2.2.2.2.2.2.2.2.2.2.2.2.1,h.2.2.2.2.2.2.2.2.2.2.2.2.2.2.2.2.2.2.2.2.2.2.2.2.2.1,h.2.2.2.2.2.2.2.2.2.2.2.2.2.2.2.2.2.2.2.2.2.2.2.2.2.2.1,h.2.2.2.2.2.2.2.2.2.2.2.2.2.2.2.2.2.2.2.2.2.2.2.2.2.2.2.drew⟩
theorem keep30k {W0 w w1:World} {p0 p1 p2 p3 p4 p5 p6 p7 p8 p9 p10 p11 p12 p13 p14 p15 p16 p17 p18 p19 p20 p21 p22 p23 p24 p25 p26 p27 p28 p29:Addr} {v0 v1 v2 v3 v4 v5 v6 v7 v8 v9 v10 v11 v12 v13 v14 v15 v16 v17 v18 v19 v20 v21 v22 v23 v24 v25 v26 v27 v28 v29:Value} (k:Kp w w1) (h:w.cell? p0=some v0∧w.cell? p1=some v1∧w.cell? p2=some v2∧w.cell? p3=some v3∧w.cell? p4=some v4∧w.cell? p5=some v5∧w.cell? p6=some v6∧w.cell? p7=some v7∧w.cell? p8=some v8∧w.cell? p9=some v9∧w.cell? p10=some v10∧w.cell? p11=some v11∧w.cell? p12=some v12∧w.cell? p13=some v13∧w.cell? p14=some v14∧w.cell? p15=some v15∧w.cell? p16=some v16∧w.cell? p17=some v17∧w.cell? p18=some v18∧w.cell? p19=some v19∧w.cell? p20=some v20∧w.cell? p21=some v21∧w.cell? p22=some v22∧w.cell? p23=some v23∧w.cell? p24=some v24∧w.cell? p25=some v25∧w.cell? p26=some v26∧w.cell? p27=some v27∧w.cell? p28=some v28∧w.cell? p29=some v29∧Kp W0 w):w1.cell? p0=some v0∧w1.cell? p1=some v1∧w1.cell? p2=some v2∧w1.cell? p3=some v3∧w1.cell? p4=some v4∧w1.cell? p5=some v5∧w1.cell? p6=some v6∧w1.cell? p7=some v7∧w1.cell? p8=some v8∧w1.cell? p9=some v9∧w1.cell? p10=some v10∧w1.cell? p11=some v11∧w1.cell? p12=some v12∧w1.cell? p13=some v13∧w1.cell? p14=some v14∧w1.cell? p15=some v15∧w1.cell? p16=some v16∧w1.cell? p17=some v17∧w1.cell? p18=some v18∧w1.cell? p19=some v19∧w1.cell? p20=some v20∧w1.cell? p21=some v21∧w1.cell? p22=some v22∧w1.cell? p23=some v23∧w1.cell? p24=some v24∧w1.cell? p25=some v25∧w1.cell? p26=some v26∧w1.cell? p27=some v27∧w1.cell? p28=some v28∧w1.cell? p29=some v29∧Kp W0 w1 :=
  ⟨k.cell h.1,k.cell h.2.1,k.cell h.2.2.1,k.cell h.2.2.2.1,k.cell h.2.2.2.2.1,k.cell h.2.2.2.2.2.1,k.cell h.2.2.2.2.2.2.1,k.cell h.2.2.2.2.2.2.2.1,k.cell h.2.2.2.2.2.2.2.2.1,k.cell h.2.2.2.2.2.2.2.2.2.1,k.cell h.2.2.2.2.2.2.2.2.2.2.1,k.cell h.2.2.2.2.2.2.2.2.2.2.2.1,k.cell h.2.2.2.2.2.2.2.2.2.2.2.2.1,k.cell h.2.2.2.2.2.2.2.2.2.2.2.2.2.1,k.cell h.2.2.2.2.2.2.2.2.2.2.2.2.2.2.1,k.cell h.2.2.2.2.2.2.2.2.2.2.2.2.2.2.2.1,k.cell h.2.2.2.2.2.2.2.2.2.2.2.2.2.2.2.2.1,k.cell h.2.2.2.2.2.2.2.2.2.2.2.2.2.2.2.2.2.1,k.cell h.2.2.2.2.2.2.2.2.2.2.2.2.2.2.2.2.2.2.1,k.cell h.2.2.2.2.2.2.2.2.2.2.2.2.2.2.2.2.2.2.2.1,k.cell h.2.2.2.2.2.2.2.2.2.2.2.2.2.2.2.2.2.2.2.2.1,k.cell h.2.2.2.2.2.2.2.2.2.2.2.2.2.2.2.2.2.2.2.2.2.1,k.cell h.2.2.2.2.2.2.2.2.2.2.2.2.2.2.2.2.2.2.2.2.2.2.1,k.cell h.2.2.2.2.2.2.2.2.2.2.2.2.2.2.2.2.2.2.2.2.2.2.2.1,k.cell h.2.2.2.2.2.2.2.2.2.2.2.2.2.2.2.2.2.2.2.2.2.2.2.2.1,k.cell h.2.2.2.2.2.2.2.2.2.2.2.2.2.2.2.2.2.2.2.2.2.2.2.2.2.1,k.cell h.2.2.2.2.2.2.2.2.2.2.2.2.2.2.2.2.2.2.2.2.2.2.2.2.2.2.1,k.cell h.2.2.2.2.2.2.2.2.2.2.2.2.2.2.2.2.2.2.2.2.2.2.2.2.2.2.2.1,k.cell h.2.2.2.2.2.2.2.2.2.2.2.2.2.2.2.2.2.2.2.2.2.2.2.2.2.2.2.2.1,k.cell h.2.2.2.2.2.2.2.2.2.2.2.2.2.2.2.2.2.2.2.2.2.2.2.2.2.2.2.2.2.1,h.2.2.2.2.2.2.2.2.2.2.2.2.2.2.2.2.2.2.2.2.2.2.2.2.2.2.2.2.2.2.trans k⟩
theorem drew30k {W0 w:World} {p0 p1 p2 p3 p4 p5 p6 p7 p8 p9 p10 p11 p12 p13 p14 p15 p16 p17 p18 p19 p20 p21 p22 p23 p24 p25 p26 p27 p28 p29:Addr} {v0 v1 v2 v3 v4 v5 v6 v7 v8 v9 v10 v11 v12 v13 v14 v15 v16 v17 v18 v19 v20 v21 v22 v23 v24 v25 v26 v27 v28 v29:Value} (h:w.cell? p0=some v0∧w.cell? p1=some v1∧w.cell? p2=some v2∧w.cell? p3=some v3∧w.cell? p4=some v4∧w.cell? p5=some v5∧w.cell? p6=some v6∧w.cell? p7=some v7∧w.cell? p8=some v8∧w.cell? p9=some v9∧w.cell? p10=some v10∧w.cell? p11=some v11∧w.cell? p12=some v12∧w.cell? p13=some v13∧w.cell? p14=some v14∧w.cell? p15=some v15∧w.cell? p16=some v16∧w.cell? p17=some v17∧w.cell? p18=some v18∧w.cell? p19=some v19∧w.cell? p20=some v20∧w.cell? p21=some v21∧w.cell? p22=some v22∧w.cell? p23=some v23∧w.cell? p24=some v24∧w.cell? p25=some v25∧w.cell? p26=some v26∧w.cell? p27=some v27∧w.cell? p28=some v28∧w.cell? p29=some v29∧Kp W0 w):w.drew.cell? p0=some v0∧w.drew.cell? p1=some v1∧w.drew.cell? p2=some v2∧w.drew.cell? p3=some v3∧w.drew.cell? p4=some v4∧w.drew.cell? p5=some v5∧w.drew.cell? p6=some v6∧w.drew.cell? p7=some v7∧w.drew.cell? p8=some v8∧w.drew.cell? p9=some v9∧w.drew.cell? p10=some v10∧w.drew.cell? p11=some v11∧w.drew.cell? p12=some v12∧w.drew.cell? p13=some v13∧w.drew.cell? p14=some v14∧w.drew.cell? p15=some v15∧w.drew.cell? p16=some v16∧w.drew.cell? p17=some v17∧w.drew.cell? p18=some v18∧w.drew.cell? p19=some v19∧w.drew.cell? p20=some v20∧w.drew.cell? p21=some v21∧w.drew.cell? p22=some v22∧w.drew.cell? p23=some v23∧w.drew.cell? p24=some v24∧w.drew.cell? p25=some v25∧w.drew.cell? p26=some v26∧w.drew.cell? p27=some v27∧w.drew.cell? p28=some v28∧w.drew.cell? p29=some v29∧Kp W0 w.drew :=
  ⟨h.1,h.2.1,h.2.2.1,h.2.2.2.1,h.2.2.2.2.1,h.2.2.2.2.2.1,h.2.2.2.2.2.2.1,h.2.2.2.2.2.2.2.1,h.2.2.2.2.2.2.2.2.1,h.2.2.2.2.2.2.2.2.2.1,h.2.2.2.2.2.2.2.2.2.2.1,h.2.2.2.2.2.2.2.2.2.2.2.1,h.2.2.2.2.2.2.2.2.2.2.2.2.1,h.2.2.2.2.2.2.2.2.2.2.2.2.2.1,h.2.2.2.2.2.2.2.2.2.2.2.2.2.2.1,h.2.2.2.2.2.2.2.2.2.2.2.2.2.2.2.1,h.2.2.2.2.2.2.2.2.2.2.2.2.2.2.2.2.1,h.2.2.2.2.2.2.2.2.2.2.2.2.2.2.2.2.2.1,h.2.2.2.2.2.2.2.2.2.2.2.2.2.2.2.2.2.2.1,h.2.2.2.2.2.2.2.2.2.2.2.2.2.2.2.2.2.2.2.1,h.2.2.2.2.2.2.2.2.2.2.2.2.2.2.2.2.2.2.2.2.1,h.2.2.2.2.2.2.2.2.2.2.2.2.2.2.2.2.2.2.2.2.2.1,h.2.2.2.2.2.2.2.2.2.2.2.2.2.2.2.2.2.2.2.2.2.2.1,h.2.2.2.2.2.2.2.2.2.2.2.2.2.2.2.2.2.2.2.2.2.2.2.1,h.2.2.2.2.2.2.2.2.2.2.2.2.2.2.2.2.2.2.2.2.2.2.2.2.1,h.2.2.2.2.2.2.2.2.2.2.2.2.2.2.2.2.2.2.2.2.2.2.2.2.2.1,h.2.2.2.2.2.2.2.2.2.2.2.2.2.2.2.2.2.2.2.2.2.2.2.2.2.2.1,h.2.2.2.2.2.2.2.2.2.2.2.2.2.2.2.2.2.2.2.2.2.2.2.2.2.2.2.1,h.2.2.2.2.2.2.2.2.2.2.2.2.2.2.2.2.2.2.2.2.2.2.2.2.2.2.2.2.1,h.2.2.2.2.2.2.2.2.2.2.2.2.2.2.2.2.2.2.2.2.2.2.2.2.2.2.2.2.2.1,h.2.2.2.2.2.2.2.2.2.2.2.2.2.2.2.2.2.2.2.2.2.2.2.2.2.2.2.2.2.2.drew⟩
set_option maxRecDepth 100000 in
set_option maxHeartbeats 16000000 in
theorem walk (At Ak:Option Addr) (nt nk ct ck:Nat) (l:List Ter) (m:List Knd) (a b c d e W H:Int) (x r y:Value) (lt lr ld:List Int) (T Z:Int) (u:Value) (us:List Uni) (sd:Int) (v:Value) (p:List Int) (w:World) (h0:Spans w) (h1:Tab w) (h2:SpU w) (hr:BrdIn w At Ak nt nk l m x r y lt lr ld) (hr2:StaIn w u us) (_hsd:isI64 sd) (hp:RdI w v p) :
    Calls Tryz.prog 8 #[bv (.slice At nt ct) (.slice Ak nk ck) a b c d e W H x r y,sv T Z u,.int .i64 sd,v] w fun e' w'=>e'=.returned (.bool true)∧Kp w w':=by
  have HP:=Lib.hid hp
  by_cases hbig:¬ p.length ≤ 1048576
  · obtain ⟨A9,c9,rfl,_⟩:=hp
    have hbig':(1048576:Int) < (p.length:Int):=by omega
    clear hr hr2 h0 h1 h2 HP
    go_enter Tryz.func8,Tryz.ntmps8
    go_wp2_with fail
    go_ret
    exact ⟨rfl,((Kp.refl _).alloc _).alloc _⟩
  have hpl:p.length ≤ 1048576:=by omega
  have hle:¬ (1048576:Int) < (p.length:Int):=by omega
  have CT:=Lib.hid (fun v w h=>toIntS_any v p w h hpl)
  clear hbig
  have HR:=Lib.hid hr
  have HU:=Lib.hid hr2
  have HS0:=Lib.hid h0
  have HS1:=Lib.hid h1
  have HS2:=Lib.hid h2
  obtain ⟨mt,e1⟩:∃ n,lt.length=n:=⟨_,rfl⟩
  obtain ⟨mr,e2⟩:∃ n,lr.length=n:=⟨_,rfl⟩
  obtain ⟨md,e3⟩:∃ n,ld.length=n:=⟨_,rfl⟩
  have HE1:=Lib.hid e1
  have HE2:=Lib.hid e2
  have HE3:=Lib.hid e3
  clear e1 e2 e3
  obtain ⟨mu,e4⟩:∃ n,us.length=n:=⟨_,rfl⟩
  have HE4:=Lib.hid e4
  clear e4
  obtain ⟨B,hB⟩:∃ z,z=(((brdOk ⟨l,m,a,b,c,d,e⟩ W H lt lr ld && staOk ⟨l,m,a,b,c,d,e⟩ W H lt T Z us) && spB 0 1 sd) && srcOk W H p):=⟨_,rfl⟩
  obtain ⟨L,hL⟩:∃ z,z=(if (((brdOk ⟨l,m,a,b,c,d,e⟩ W H lt lr ld && staOk ⟨l,m,a,b,c,d,e⟩ W H lt T Z us) && spB 0 1 sd) && srcOk W H p)=true then unL (fun z=>decide (z.s=sd) && supU l m lt lr ld W us H d p z) us us.length else []):=⟨_,rfl⟩
  have hn:L.length ≤ 100:=by
    rw [hL]
    split
    · rename_i hb9;simp only [Bool.and_eq_true] at hb9;have h1:=(staOk_parts hb9.1.1.2).2.1;have h2:=unL_len (fun z=>decide (z.s=sd) && supU l m lt lr ld W us H d p z) us us.length
      omega
    · simp
  have CS:Hid (∀ (v:Value) (At Ak:Option Addr) (ct ck:Nat) (x r y u:Value) (w:World),BrdAt w At Ak nt nk l m x r y lt lr ld→StaAt w u us→RdI w v p→Calls Tryz.prog 34 #[bv (.slice At nt ct) (.slice Ak nk ck) a b c d e W H x r y,sv T Z u,.int .i64 sd,v] w fun e' w'=>∃ v,e'=.returned (.tuple #[v,.bool B])∧OwnI w' w.heap.size v L∧Kp w w'):=Lib.hid fun v At Ak ct ck x r y u w hb hu hv=>by
    rw [hB,hL]
    exact (by
      obtain ⟨A9,c9,rfl,_⟩:=id hv
      exact specSuppliedUnits_any At Ak nt nk ct ck l m a b c d e W H x r y lt lr ld T Z u us sd A9 p.length c9 p w hb hu hv hpl)
  have CI:Hid (∀ (v:Value) (At Ak:Option Addr) (ct ck:Nat) (x r y u:Value) (w:World),BrdAt w At Ak nt nk l m x r y lt lr ld→StaAt w u us→Spans w→Tab w→SpU w→RdI w v p→Calls Tryz.prog 35 #[bv (.slice At nt ct) (.slice Ak nk ck) a b c d e W H x r y,sv T Z u,.int .i64 sd,v] w fun e' w'=>∃ v,e'=.returned (.tuple #[v,.bool B])∧OwnI w' w.heap.size v L∧Kp w w'):=Lib.hid fun v At Ak ct ck x r y u w hb hu h0 h1 h2 hv=>by
    rw [hB,hL]
    exact (by
      obtain ⟨A9,c9,rfl,_⟩:=id hv
      exact suppliedUnitsP_any At Ak nt nk ct ck l m a b c d e W H x r y lt lr ld T Z u us sd A9 p.length c9 p w h0 h1 h2 hb hu hv hpl)
  have eB:(B != B)=false:=by simp
  clear hr hr2 h0 h1 h2 hB hL
  obtain ⟨A9,c9,rfl,_⟩:=hp
  have s0:cb12 ((w.alloc (.cells #[.slice At nt ct,.slice Ak nk ck,.int .i64 a,.int .i64 b,.int .i64 c,.int .i64 d,.int .i64 e,.int .i64 W,.int .i64 H,x,r,y] 30)).alloc (.cells #[.int .i64 T,.int .i64 Z,u] 33)) (w.heap.size) (.slice At nt ct) (.slice Ak nk ck) (.int .i64 a) (.int .i64 b) (.int .i64 c) (.int .i64 d) (.int .i64 e) (.int .i64 W) (.int .i64 H) (x) (r) (y) (cb3 ((w.alloc (.cells #[.slice At nt ct,.slice Ak nk ck,.int .i64 a,.int .i64 b,.int .i64 c,.int .i64 d,.int .i64 e,.int .i64 W,.int .i64 H,x,r,y] 30)).alloc (.cells #[.int .i64 T,.int .i64 Z,u] 33)) (w.heap.size + 1) (.int .i64 T) (.int .i64 Z) (u) (Kp w ((w.alloc (.cells #[.slice At nt ct,.slice Ak nk ck,.int .i64 a,.int .i64 b,.int .i64 c,.int .i64 d,.int .i64 e,.int .i64 W,.int .i64 H,x,r,y] 30)).alloc (.cells #[.int .i64 T,.int .i64 Z,u] 33)))):=⟨by simp [go_sem],by simp [go_sem],by simp [go_sem],by simp [go_sem],by simp [go_sem],by simp [go_sem],by simp [go_sem],by simp [go_sem],by simp [go_sem],by simp [go_sem],by simp [go_sem],by simp [go_sem],by simp [go_sem],by simp [go_sem],by simp [go_sem],((Kp.refl w).alloc _).alloc _⟩
  go_enter Tryz.func8,Tryz.ntmps8
  go_wp2_with fail
  refine (szBoard_any _ _ _ _ _ _ l m _ _ _ _ _ _ _ _ _ _ lt lr ld _ _ (HR.out.keep s0.2.2.2.2.2.2.2.2.2.2.2.2.2.2.2) (by omega) (by omega)).mono ?_
  rintro e1 w1 ⟨r1,rfl,u1,u2,u3,k1⟩
  have s1:=keep15k k1 s0
  have U3:=Lib.hid u3
  clear s0 k1 u3
  by_cases hneg:r1 < 0
  · go_wp2_with fail
    go_ret
    exact ⟨rfl,s1.2.2.2.2.2.2.2.2.2.2.2.2.2.2.2⟩
  have SM:=Lib.hid (U3.out (by omega))
  have RA:=Lib.hid (HR.out.at SM.out)
  clear U3
  go_wp2_with fail
  refine (szState_any _ _ _ us _ _ (HU.out.keep s1.2.2.2.2.2.2.2.2.2.2.2.2.2.2.2) (by omega) u1).mono ?_
  rintro e2 w2 ⟨r2,rfl,v1,v2,v3,k2⟩
  have s2:=keep15k k2 s1
  have V3:=Lib.hid v3
  clear s1 k2 v3
  by_cases hneg2:r2 < 0
  · go_wp2_with fail
    go_ret
    exact ⟨rfl,s2.2.2.2.2.2.2.2.2.2.2.2.2.2.2.2⟩
  have SU:=Lib.hid (V3.out (by omega))
  have LA:=Lib.hid (HU.out.at SU.out)
  have hmu:mu ≤ 1048576:=by rw [← HE4.out];exact SU.out
  clear V3
  go_wp2_with fail
  have s2d:=drew15k s2
  go_region_held3 (fun w'=>cb12 w' (w.heap.size) (.slice At nt ct) (.slice Ak nk ck) (.int .i64 a) (.int .i64 b) (.int .i64 c) (.int .i64 d) (.int .i64 e) (.int .i64 W) (.int .i64 H) (x) (r) (y) (cb3 w' (w.heap.size + 1) (.int .i64 T) (.int .i64 Z) (u) (Kp w w'))) (first | assumption | exact s2d)
    (first
      | (go_at_call 15;refine (toBoard_any _ _ _ _ _ _ l m _ _ _ _ _ _ _ _ _ _ lt lr ld mt mr md _ (RA.out.keep s2d.2.2.2.2.2.2.2.2.2.2.2.2.2.2.2) HE1.out HE2.out HE3.out).mono ?_;rintro e3 w3 ⟨g1a,g2a,csa,ysa,zsa,A1a,c1a,A2a,c2a,A3a,c3a,rfl,o3,k3⟩;have s3:=keep15k k3 s2d;have R3:=Lib.hid (o3.at RA.out))
      | (go_at_call 16;refine (toState_any T Z _ us mu _ (LA.out.keep s3.2.2.2.2.2.2.2.2.2.2.2.2.2.2.2) HE4.out).mono ?_;rintro e3' w3' ⟨gua,rfl,o3',k3'⟩;have s3':=keep15k k3' s3;have B3:=Lib.hid (R3.out.keep k3');have S3:=Lib.hid (o3'.sta LA.out))
      | (go_at_call 21;refine (CT.out _ _ (HP.out.keep s3'.2.2.2.2.2.2.2.2.2.2.2.2.2.2.2)).mono ?_;rintro e31 w31 ⟨x31,rfl,o31,k31⟩;have s31:=keep15k k31 s3';have R31:=Lib.hid o31.rd;have B31:=Lib.hid (B3.out.keep k31);have S31:=Lib.hid (S3.out.keep k31))
      | (go_at_call 34;refine (CS.out _ _ _ _ _ _ _ _ _ _ B31.out S31.out R31.out).mono ?_;rintro e4 w4 ⟨v0,rfl,o4,k4⟩;have s4:=keep15k k4 s31;have HS4:=Lib.hid s4;have R0:=Lib.hid o4.rd))
  clear s2 s2d s3 s3' R3 B3 S3 s31 R31 B31 S31
  go_wp2_with fail
  refine (toBoard_any _ _ _ _ _ _ l m _ _ _ _ _ _ _ _ _ _ lt lr ld mt mr md _ (RA.out.keep s4.2.2.2.2.2.2.2.2.2.2.2.2.2.2.2) HE1.out HE2.out HE3.out).mono ?_
  rintro e5 w5 ⟨g1b,g2b,csb,ysb,zsb,A1b,c1b,A2b,c2b,A3b,c3b,rfl,o5,k5⟩
  have s5a:=keep15k k5 s4
  have kb:Kp w5 (w5.alloc (.cells #[.slice (some ⟨g1b,0,none⟩) nt nt,.slice (some ⟨g2b,0,none⟩) nk nk,.int .i64 a,.int .i64 b,.int .i64 c,.int .i64 d,.int .i64 e,.int .i64 W,.int .i64 H,.slice A1b mt c1b,.slice A2b mr c2b,.slice A3b md c3b] 44)):=(Kp.refl w5).alloc _
  have s5:cb12 (w5.alloc (.cells #[.slice (some ⟨g1b,0,none⟩) nt nt,.slice (some ⟨g2b,0,none⟩) nk nk,.int .i64 a,.int .i64 b,.int .i64 c,.int .i64 d,.int .i64 e,.int .i64 W,.int .i64 H,.slice A1b mt c1b,.slice A2b mr c2b,.slice A3b md c3b] 44)) (w.heap.size) (.slice At nt ct) (.slice Ak nk ck) (.int .i64 a) (.int .i64 b) (.int .i64 c) (.int .i64 d) (.int .i64 e) (.int .i64 W) (.int .i64 H) (x) (r) (y) (cb3 (w5.alloc (.cells #[.slice (some ⟨g1b,0,none⟩) nt nt,.slice (some ⟨g2b,0,none⟩) nk nk,.int .i64 a,.int .i64 b,.int .i64 c,.int .i64 d,.int .i64 e,.int .i64 W,.int .i64 H,.slice A1b mt c1b,.slice A2b mr c2b,.slice A3b md c3b] 44)) (w.heap.size + 1) (.int .i64 T) (.int .i64 Z) (u) (cb12 (w5.alloc (.cells #[.slice (some ⟨g1b,0,none⟩) nt nt,.slice (some ⟨g2b,0,none⟩) nk nk,.int .i64 a,.int .i64 b,.int .i64 c,.int .i64 d,.int .i64 e,.int .i64 W,.int .i64 H,.slice A1b mt c1b,.slice A2b mr c2b,.slice A3b md c3b] 44)) (w5.heap.size) (.slice (some ⟨g1b,0,none⟩) nt nt) (.slice (some ⟨g2b,0,none⟩) nk nk) (.int .i64 a) (.int .i64 b) (.int .i64 c) (.int .i64 d) (.int .i64 e) (.int .i64 W) (.int .i64 H) (.slice A1b mt c1b) (.slice A2b mr c2b) (.slice A3b md c3b) (Kp w (w5.alloc (.cells #[.slice (some ⟨g1b,0,none⟩) nt nt,.slice (some ⟨g2b,0,none⟩) nk nk,.int .i64 a,.int .i64 b,.int .i64 c,.int .i64 d,.int .i64 e,.int .i64 W,.int .i64 H,.slice A1b mt c1b,.slice A2b mr c2b,.slice A3b md c3b] 44))))):=⟨kb.cell s5a.1,kb.cell s5a.2.1,kb.cell s5a.2.2.1,kb.cell s5a.2.2.2.1,kb.cell s5a.2.2.2.2.1,kb.cell s5a.2.2.2.2.2.1,kb.cell s5a.2.2.2.2.2.2.1,kb.cell s5a.2.2.2.2.2.2.2.1,kb.cell s5a.2.2.2.2.2.2.2.2.1,kb.cell s5a.2.2.2.2.2.2.2.2.2.1,kb.cell s5a.2.2.2.2.2.2.2.2.2.2.1,kb.cell s5a.2.2.2.2.2.2.2.2.2.2.2.1,kb.cell s5a.2.2.2.2.2.2.2.2.2.2.2.2.1,kb.cell s5a.2.2.2.2.2.2.2.2.2.2.2.2.2.1,kb.cell s5a.2.2.2.2.2.2.2.2.2.2.2.2.2.2.1,by simp [go_sem],by simp [go_sem],by simp [go_sem],by simp [go_sem],by simp [go_sem],by simp [go_sem],by simp [go_sem],by simp [go_sem],by simp [go_sem],by simp [go_sem],by simp [go_sem],by simp [go_sem],s5a.2.2.2.2.2.2.2.2.2.2.2.2.2.2.2.trans kb⟩
  have OR5:=Lib.hid (o5.keep kb)
  have I5:=Lib.hid (And.intro o5.R.z (And.intro (fun g e=>(World.ownsRow.lt o5.M.ot g e).2) (And.intro (fun g e=>(World.ownsRow.lt o5.M.or g e).2) (fun g e=>(World.ownsRow.lt o5.M.od g e).2))))
  have K45:Kp w4 (w5.alloc (.cells #[.slice (some ⟨g1b,0,none⟩) nt nt,.slice (some ⟨g2b,0,none⟩) nk nk,.int .i64 a,.int .i64 b,.int .i64 c,.int .i64 d,.int .i64 e,.int .i64 W,.int .i64 H,.slice A1b mt c1b,.slice A2b mr c2b,.slice A3b md c3b] 44)):=k5.trans kb
  have hz45:=k5.size
  clear s4 k5 o5 s5a kb
  go_wp2_with fail
  generalize hW5:w5.alloc (.cells #[.slice (some ⟨g1b,0,none⟩) nt nt,.slice (some ⟨g2b,0,none⟩) nk nk,.int .i64 a,.int .i64 b,.int .i64 c,.int .i64 d,.int .i64 e,.int .i64 W,.int .i64 H,.slice A1b mt c1b,.slice A2b mr c2b,.slice A3b md c3b] 44)=W5 at *
  have hz5:W5.heap.size=w5.heap.size + 1:=by rw [← hW5];simp
  clear hW5
  refine (toState_any T Z _ us mu _ (LA.out.keep s5.2.2.2.2.2.2.2.2.2.2.2.2.2.2.2.2.2.2.2.2.2.2.2.2.2.2.2) HE4.out).mono ?_
  rintro e6 w6 ⟨gub,rfl,o6,k6⟩
  have s6a:=keep27k k6 s5
  have kc:Kp w6 (w6.alloc (.cells #[.int .i64 T,.int .i64 Z,.slice (some ⟨gub,0,none⟩) mu mu] 48)):=(Kp.refl w6).alloc _
  have s6:cb12 (w6.alloc (.cells #[.int .i64 T,.int .i64 Z,.slice (some ⟨gub,0,none⟩) mu mu] 48)) (w.heap.size) (.slice At nt ct) (.slice Ak nk ck) (.int .i64 a) (.int .i64 b) (.int .i64 c) (.int .i64 d) (.int .i64 e) (.int .i64 W) (.int .i64 H) (x) (r) (y) (cb3 (w6.alloc (.cells #[.int .i64 T,.int .i64 Z,.slice (some ⟨gub,0,none⟩) mu mu] 48)) (w.heap.size + 1) (.int .i64 T) (.int .i64 Z) (u) (cb12 (w6.alloc (.cells #[.int .i64 T,.int .i64 Z,.slice (some ⟨gub,0,none⟩) mu mu] 48)) (w5.heap.size) (.slice (some ⟨g1b,0,none⟩) nt nt) (.slice (some ⟨g2b,0,none⟩) nk nk) (.int .i64 a) (.int .i64 b) (.int .i64 c) (.int .i64 d) (.int .i64 e) (.int .i64 W) (.int .i64 H) (.slice A1b mt c1b) (.slice A2b mr c2b) (.slice A3b md c3b) (cb3 (w6.alloc (.cells #[.int .i64 T,.int .i64 Z,.slice (some ⟨gub,0,none⟩) mu mu] 48)) (w6.heap.size) (.int .i64 T) (.int .i64 Z) (.slice (some ⟨gub,0,none⟩) mu mu) (Kp w (w6.alloc (.cells #[.int .i64 T,.int .i64 Z,.slice (some ⟨gub,0,none⟩) mu mu] 48)))))):=⟨kc.cell s6a.1,kc.cell s6a.2.1,kc.cell s6a.2.2.1,kc.cell s6a.2.2.2.1,kc.cell s6a.2.2.2.2.1,kc.cell s6a.2.2.2.2.2.1,kc.cell s6a.2.2.2.2.2.2.1,kc.cell s6a.2.2.2.2.2.2.2.1,kc.cell s6a.2.2.2.2.2.2.2.2.1,kc.cell s6a.2.2.2.2.2.2.2.2.2.1,kc.cell s6a.2.2.2.2.2.2.2.2.2.2.1,kc.cell s6a.2.2.2.2.2.2.2.2.2.2.2.1,kc.cell s6a.2.2.2.2.2.2.2.2.2.2.2.2.1,kc.cell s6a.2.2.2.2.2.2.2.2.2.2.2.2.2.1,kc.cell s6a.2.2.2.2.2.2.2.2.2.2.2.2.2.2.1,kc.cell s6a.2.2.2.2.2.2.2.2.2.2.2.2.2.2.2.1,kc.cell s6a.2.2.2.2.2.2.2.2.2.2.2.2.2.2.2.2.1,kc.cell s6a.2.2.2.2.2.2.2.2.2.2.2.2.2.2.2.2.2.1,kc.cell s6a.2.2.2.2.2.2.2.2.2.2.2.2.2.2.2.2.2.2.1,kc.cell s6a.2.2.2.2.2.2.2.2.2.2.2.2.2.2.2.2.2.2.2.1,kc.cell s6a.2.2.2.2.2.2.2.2.2.2.2.2.2.2.2.2.2.2.2.2.1,kc.cell s6a.2.2.2.2.2.2.2.2.2.2.2.2.2.2.2.2.2.2.2.2.2.1,kc.cell s6a.2.2.2.2.2.2.2.2.2.2.2.2.2.2.2.2.2.2.2.2.2.2.1,kc.cell s6a.2.2.2.2.2.2.2.2.2.2.2.2.2.2.2.2.2.2.2.2.2.2.2.1,kc.cell s6a.2.2.2.2.2.2.2.2.2.2.2.2.2.2.2.2.2.2.2.2.2.2.2.2.1,kc.cell s6a.2.2.2.2.2.2.2.2.2.2.2.2.2.2.2.2.2.2.2.2.2.2.2.2.2.1,kc.cell s6a.2.2.2.2.2.2.2.2.2.2.2.2.2.2.2.2.2.2.2.2.2.2.2.2.2.2.1,by simp [go_sem],by simp [go_sem],by simp [go_sem],s6a.2.2.2.2.2.2.2.2.2.2.2.2.2.2.2.2.2.2.2.2.2.2.2.2.2.2.2.trans kc⟩
  have OR6:=Lib.hid (OR5.out.keep (k6.trans kc))
  have OM6:=Lib.hid (o6.keep kc)
  have I6:=Lib.hid (fun g e=>(World.ownsRow.lt o6 g e).2)
  have K46:Kp w4 (w6.alloc (.cells #[.int .i64 T,.int .i64 Z,.slice (some ⟨gub,0,none⟩) mu mu] 48)):=K45.trans (k6.trans kc)
  have hz6:=k6.size
  clear s5 k6 o6 s6a kc OR5 K45
  go_wp2_with fail
  generalize hW6:w6.alloc (.cells #[.int .i64 T,.int .i64 Z,.slice (some ⟨gub,0,none⟩) mu mu] 48)=W6 at *
  have hz6':W6.heap.size=w6.heap.size + 1:=by rw [← hW6];simp
  clear hW6
  refine (CT.out _ _ (HP.out.keep s6.2.2.2.2.2.2.2.2.2.2.2.2.2.2.2.2.2.2.2.2.2.2.2.2.2.2.2.2.2.2)).mono ?_
  rintro e61 w61 ⟨xp,rfl,o61,k61⟩
  have s6n:=keep30k k61 s6
  have OR6n:=Lib.hid (OR6.out.keep k61)
  have OM6n:=Lib.hid (OM6.out.keep k61)
  have K46n:=K46.trans k61
  have OP:=Lib.hid o61
  have hxp:∀ g,xp.ownBlock=some g→g < w61.heap.size:=fun g hg=>(World.ownsRow.lt o61 g hg).2
  have HXP:=Lib.hid hxp
  clear hxp
  have hz61:=k61.size
  clear s6 OR6 OM6 K46 k61 o61
  have s6:=s6n
  have OR6:=OR6n
  have OM6:=OM6n
  have K46:=K46n
  clear s6n OR6n OM6n K46n
  go_wp2_with fail
  refine (CI.out _ _ _ _ _ _ _ _ _ _ (OR6.out.at RA.out) (OM6.out.sta LA.out) (HS0.out.keep s6.2.2.2.2.2.2.2.2.2.2.2.2.2.2.2.2.2.2.2.2.2.2.2.2.2.2.2.2.2.2) (HS1.out.keep s6.2.2.2.2.2.2.2.2.2.2.2.2.2.2.2.2.2.2.2.2.2.2.2.2.2.2.2.2.2.2) (HS2.out.keep s6.2.2.2.2.2.2.2.2.2.2.2.2.2.2.2.2.2.2.2.2.2.2.2.2.2.2.2.2.2.2) OP.out.rd).mono ?_
  rintro e7 w7 ⟨vv,rfl,o7,k7⟩
  have s7:=keep30k k7 s6
  have O6':=Lib.hid (o7.base (b:=w61.heap.size) (by omega))
  have OR7:=Lib.hid (OR6.out.keep k7)
  have OM7:=Lib.hid (OM6.out.keep k7)
  have OP7:=Lib.hid (OP.out.keep k7)
  have K47:Kp w4 w7:=K46.trans k7
  have hz7:=k7.size
  clear s6 k7 o7 OR6 OM6 K46 OP
  go_wp2_with fail
  refine (eqIntS_same vv v0 L _ O6'.out.rd (R0.out.keep K47) (by omega)).mono ?_
  rintro e8 w8 ⟨rfl,k8⟩
  have s8a:=keep30k k8 s7
  have O7:=Lib.hid (O6'.out.keep k8)
  have OR8:=Lib.hid (OR7.out.keep k8)
  have OM8:=Lib.hid (OM7.out.keep k8)
  have OP8:=Lib.hid (OP7.out.keep k8)
  have K48:Kp w4 w8:=K47.trans k8
  have hz8:=k8.size
  clear s7 k8 O6' OR7 OM7 K47 OP7
  have s8:=drew30k s8a
  clear s8a
  go_wp2_with fail
  go_region_held3 (fun w'=>cb12 w' (w.heap.size) (.slice At nt ct) (.slice Ak nk ck) (.int .i64 a) (.int .i64 b) (.int .i64 c) (.int .i64 d) (.int .i64 e) (.int .i64 W) (.int .i64 H) (x) (r) (y) (cb3 w' (w.heap.size + 1) (.int .i64 T) (.int .i64 Z) (u) (cb12 w' (w5.heap.size) (.slice (some ⟨g1b,0,none⟩) nt nt) (.slice (some ⟨g2b,0,none⟩) nk nk) (.int .i64 a) (.int .i64 b) (.int .i64 c) (.int .i64 d) (.int .i64 e) (.int .i64 W) (.int .i64 H) (.slice A1b mt c1b) (.slice A2b mr c2b) (.slice A3b md c3b) (cb3 w' (w6.heap.size) (.int .i64 T) (.int .i64 Z) (.slice (some ⟨gub,0,none⟩) mu mu) (Kp w w'))))) (first | assumption | exact s8)
    (first
      | (go_at_call 15;refine (toBoard_any _ _ _ _ _ _ l m _ _ _ _ _ _ _ _ _ _ lt lr ld mt mr md _ (RA.out.keep s8.2.2.2.2.2.2.2.2.2.2.2.2.2.2.2.2.2.2.2.2.2.2.2.2.2.2.2.2.2.2) HE1.out HE2.out HE3.out).mono ?_;rintro e9 w9 ⟨g1c,g2c,csc,ysc,zsc,A1c,c1c,A2c,c2c,A3c,c3c,rfl,o9,k9⟩;have s9:=keep30k k9 s8;have L9:=Lib.hid (o9.at RA.out);have M9:=Lib.hid ((OR8.out.keep ((Kp.refl _).drew)).keep k9);have N9:=Lib.hid (M9.out.at RA.out);have k89:=Lib.hid ((Kp.refl w8).drew.trans k9))
      | (go_at_call 18;refine (eqBoard_same _ _ _ _ _ _ _ _ _ _ l m _ _ _ _ _ _ _ _ _ _ _ _ _ lt lr ld _ N9.out L9.out).mono ?_;rintro e10 w10 ⟨rfl,k10⟩;have s10a:=keep30k k10 s9;have ORa:=Lib.hid (M9.out.keep k10);have k8a:=Lib.hid (k89.out.trans k10)))
  have Oa:=Lib.hid (O7.out.keep k8a.out)
  have OMa:=Lib.hid (OM8.out.keep k8a.out)
  have OPa:=Lib.hid (OP8.out.keep k8a.out)
  have K4a:Kp w4 w10:=K48.trans k8a.out
  have hza:=k8a.out.size
  clear s8 s9 L9 M9 N9 k89 k8a OR8 OM8 K48
  have s10:=drew30k s10a
  clear s10a
  go_wp2_with fail
  go_region_held3 (fun w'=>cb12 w' (w.heap.size) (.slice At nt ct) (.slice Ak nk ck) (.int .i64 a) (.int .i64 b) (.int .i64 c) (.int .i64 d) (.int .i64 e) (.int .i64 W) (.int .i64 H) (x) (r) (y) (cb3 w' (w.heap.size + 1) (.int .i64 T) (.int .i64 Z) (u) (cb12 w' (w5.heap.size) (.slice (some ⟨g1b,0,none⟩) nt nt) (.slice (some ⟨g2b,0,none⟩) nk nk) (.int .i64 a) (.int .i64 b) (.int .i64 c) (.int .i64 d) (.int .i64 e) (.int .i64 W) (.int .i64 H) (.slice A1b mt c1b) (.slice A2b mr c2b) (.slice A3b md c3b) (cb3 w' (w6.heap.size) (.int .i64 T) (.int .i64 Z) (.slice (some ⟨gub,0,none⟩) mu mu) (Kp w w'))))) (first | assumption | exact s10)
    (first
      | (go_at_call 16;refine (toState_any T Z _ us mu _ (LA.out.keep s10.2.2.2.2.2.2.2.2.2.2.2.2.2.2.2.2.2.2.2.2.2.2.2.2.2.2.2.2.2.2) HE4.out).mono ?_;rintro e11 w11 ⟨guc,rfl,o11,k11⟩;have s11:=keep30k k11 s10;have L11:=Lib.hid (o11.sta LA.out);have M11:=Lib.hid ((OMa.out.keep ((Kp.refl _).drew)).keep k11);have N11:=Lib.hid (M11.out.sta LA.out);have kab:=Lib.hid ((Kp.refl w10).drew.trans k11))
      | (go_at_call 19;refine (eqState_same T Z _ _ us _ N11.out L11.out).mono ?_;rintro e12 w12 ⟨rfl,k12⟩;have s12:=keep30k k12 s11;have OMb:=Lib.hid (M11.out.keep k12);have kac:=Lib.hid (kab.out.trans k12)))
  have Ob:=Lib.hid (Oa.out.keep kac.out)
  have ORb:=Lib.hid (ORa.out.keep kac.out)
  have OPb:=Lib.hid (OPa.out.keep kac.out)
  have K4b:Kp w4 w12:=K4a.trans kac.out
  have hzb:=kac.out.size
  have hz4b:=K4b.size
  clear s10 s11 L11 M11 N11 kab kac Oa O7 ORa OMa K4a OPa OP8
  go_wp2_with fail
  refine (CT.out _ _ (HP.out.keep s12.2.2.2.2.2.2.2.2.2.2.2.2.2.2.2.2.2.2.2.2.2.2.2.2.2.2.2.2.2.2)).mono ?_
  rintro e32 w32 ⟨x32,rfl,o32,k32⟩
  have OP32:=Lib.hid (OPb.out.keep k32)
  have R32:=Lib.hid o32.rd
  clear o32 OPb
  go_wp2_with fail
  refine (eqIntS_same xp x32 p _ OP32.out.rd R32.out hpl).mono ?_
  rintro e33 w33 ⟨rfl,k33⟩
  have k3233:=k32.trans k33
  have ObN:=Lib.hid (Ob.out.keep k3233)
  have ORbN:=Lib.hid (ORb.out.keep k3233)
  have OMbN:=Lib.hid (OMb.out.keep k3233)
  have OPbN:=Lib.hid (OP32.out.keep k33)
  have K4bN:=K4b.trans k3233
  have s12N:=keep30k k3233 s12
  have hz33:=K4bN.size
  have hz332:=k3233.size
  clear Ob ORb OMb K4b s12 OP32 R32 k32 k33 k3233
  have Ob:=ObN
  have ORb:=ORbN
  have OMb:=OMbN
  have OPb:=OPbN
  have K4b:=K4bN
  have s12:=s12N
  clear ObN ORbN OMbN OPbN K4bN s12N
  go_wp2_with fail
  refine (markBoard_u w4.heap.size _ _ _ _ l m _ _ _ _ _ _ _ _ _ _ 1 _ _ _ lt lr ld _ ORb.out RA.out.R.bt RA.out.R.bk (fun x hx=>(RA.out.R.bc x hx).1) SM.out.2 (by omega) w5.heap.size (by omega) I5.out.1 I5.out.2.1 I5.out.2.2.1 I5.out.2.2.2 (by omega) (by omega)).mono ?_
  rintro e13 w13 ⟨kk,rfl,y13,z13,m13⟩
  have c13:ce3 w13 (w6.heap.size) (.int .i64 T) (.int .i64 Z) (.slice (some ⟨gub,0,none⟩) mu mu):=⟨m13.cell_hi (by omega) s12.2.2.2.2.2.2.2.2.2.2.2.2.2.2.2.2.2.2.2.2.2.2.2.2.2.2.2.1,m13.cell_hi (by omega) s12.2.2.2.2.2.2.2.2.2.2.2.2.2.2.2.2.2.2.2.2.2.2.2.2.2.2.2.2.1,m13.cell_hi (by omega) s12.2.2.2.2.2.2.2.2.2.2.2.2.2.2.2.2.2.2.2.2.2.2.2.2.2.2.2.2.2.1⟩
  have K4c:Kp w4 w13:=m13.kp K4b (Nat.le_refl _)
  have Oc:Hid (OwnI w13 w61.heap.size vv L):=Lib.hid (m13.own Ob.out (fun g hg=>by
    have h1:=(World.ownsRow.lt Ob.out g hg).1
    omega))
  have OMc:Hid (w13.ownsRow W5.heap.size 103 4 (.slice (some ⟨gub,0,none⟩) mu mu) mu (cellsU us)):=Lib.hid (by
    have h0:=m13.own OMb.out (fun g hg=>by
      have h1:=(World.ownsRow.lt OMb.out g hg).1
      omega)
    rw [HE4.out] at h0
    exact h0)
  have OPc:Hid (OwnI w13 W6.heap.size xp p):=Lib.hid (m13.own OPb.out (fun g hg=>by
    have h1:=(World.ownsRow.lt OPb.out g hg).1
    omega))
  have hzc:=m13.1.size
  clear m13 Ob ORb OMb K4b s12 OPb
  go_wp2_with fail
  refine (markState_own T Z _ mu W5.heap.size w6.heap.size kk _ _ (by omega) (by omega) hmu OMc.out (by omega) I6.out).mono ?_
  rintro e14 w14 ⟨rfl,o14,m14⟩
  have K4d:Kp w4 w14:=m14.kp K4c (by omega)
  have Od:Hid (OwnI w14 w61.heap.size vv L):=Lib.hid (m14.own Oc.out (fun g hg=>by
    have h1:=(World.ownsRow.lt Oc.out g hg).1
    omega))
  have OPd:Hid (OwnI w14 W6.heap.size xp p):=Lib.hid (m14.own OPc.out (fun g hg=>by
    have h1:=(World.ownsRow.lt OPc.out g hg).1
    omega))
  have hz14:=K4d.size
  clear m14 o14 Oc OMc K4c c13 OPc
  go_wp2_with fail
  refine (markIntS_own xp p.length W6.heap.size (kk + 4 * (mu:Int)) (cellsI p) _ (by omega) (by omega) (by omega) OPd.out).mono ?_
  rintro e34 w34 ⟨rfl,om34,gm34⟩
  have K4m:Kp w4 w34:=K4d.grown gm34 (fun k e=>by have:=(World.ownsRow.lt OPd.out k e).1;omega)
  have OdM:Hid (OwnI w34 w61.heap.size vv L):=Lib.hid (World.ownsRow.kept Od.out gm34 (by
    cases hv:vv.ownBlock
    · exact .inl rfl
    · rename_i k
      refine .inr fun e=>?_
      have h1:=(World.ownsRow.lt Od.out k hv).1
      have h2:=HXP.out k e.symm
      omega))
  have hk0:¬ (kk + 4 * (mu:Int) + (p.length:Int)) < 0:=by omega
  clear om34 gm34 OPd Od K4d
  have Od:=OdM
  have K4d:=K4m
  clear OdM K4m
  go_wp2_with fail
  refine (eqIntS_same vv v0 L _ Od.out.rd (R0.out.keep K4d) (by omega)).mono ?_
  rintro e15 w15 ⟨rfl,k15⟩
  have Oe:=Lib.hid (Od.out.keep k15)
  have K4e:Kp w4 w15:=K4d.trans k15
  have hz4:w4.heap.size ≤ w61.heap.size:=by omega
  clear Od K4d k15
  go_wp2_with fail
  refine (markIntS_own vv L.length w61.heap.size 1 (cellsI L) _ (by omega) (by omega) (by omega) Oe.out).mono ?_
  rintro e16 w16 ⟨rfl,om,gm⟩
  have K4f:Kp w4 w16:=K4e.grown gm (fun k e=>Nat.le_trans hz4 (World.ownsRow.lt Oe.out k e).1)
  have OM:=Lib.hid om
  have hne:((1 + (L.length:Int)) != (1 + (L.length:Int)))=false:=by simp
  clear om gm Oe K4e
  go_wp2_with fail
  refine (heldIntS_own vv L.length w61.heap.size 1 _ (by omega) (by omega) (by omega) OM.out).mono ?_
  rintro e17 w17 ⟨rfl,k17⟩
  have OM2:=Lib.hid (ownsRow_keep OM.out k17)
  have K4g:Kp w4 w17:=K4f.trans k17
  have s17:=keep15k K4g HS4.out
  clear K4f k17 OM HS4
  go_wp2_with fail
  have s17d:=drew15k s17
  go_region_held3 (fun w'=>cb12 w' (w.heap.size) (.slice At nt ct) (.slice Ak nk ck) (.int .i64 a) (.int .i64 b) (.int .i64 c) (.int .i64 d) (.int .i64 e) (.int .i64 W) (.int .i64 H) (x) (r) (y) (cb3 w' (w.heap.size + 1) (.int .i64 T) (.int .i64 Z) (u) (Kp w w'))) (first | assumption | exact s17d)
    (first
      | (go_at_call 15;refine (toBoard_any _ _ _ _ _ _ l m _ _ _ _ _ _ _ _ _ _ lt lr ld mt mr md _ (RA.out.keep s17d.2.2.2.2.2.2.2.2.2.2.2.2.2.2.2) HE1.out HE2.out HE3.out).mono ?_;rintro e18 w18 ⟨g1d,g2d,csd,ysd,zsd,A1d,c1d,A2d,c2d,A3d,c3d,rfl,o18,k18⟩;have s18:=keep15k k18 s17d;have R18:=Lib.hid (o18.at RA.out);have K18:=Lib.hid ((Kp.refl w17).drew.trans k18))
      | (go_at_call 16;refine (toState_any T Z _ us mu _ (LA.out.keep s18.2.2.2.2.2.2.2.2.2.2.2.2.2.2.2) HE4.out).mono ?_;rintro e19 w19 ⟨gud,rfl,o19,k19⟩;have s19:=keep15k k19 s18;have B19:=Lib.hid (R18.out.keep k19);have S19:=Lib.hid (o19.sta LA.out);have K19:=Lib.hid (K18.out.trans k19))
      | (go_at_call 21;refine (CT.out _ _ (HP.out.keep s19.2.2.2.2.2.2.2.2.2.2.2.2.2.2.2)).mono ?_;rintro e35 w35 ⟨x35,rfl,o35,k35⟩;have s35:=keep15k k35 s19;have R35:=Lib.hid o35.rd;have B35:=Lib.hid (B19.out.keep k35);have S35:=Lib.hid (S19.out.keep k35);have K35:=Lib.hid (K19.out.trans k35))
      | (go_at_call 35;refine (CI.out _ _ _ _ _ _ _ _ _ _ B35.out S35.out (HS0.out.keep s35.2.2.2.2.2.2.2.2.2.2.2.2.2.2.2) (HS1.out.keep s35.2.2.2.2.2.2.2.2.2.2.2.2.2.2.2) (HS2.out.keep s35.2.2.2.2.2.2.2.2.2.2.2.2.2.2.2) R35.out).mono ?_;rintro e20 w20 ⟨v2',rfl,o20,k20⟩;have s20:=keep15k k20 s35;have O20:=Lib.hid o20;have K20:=Lib.hid (K35.out.trans k20)))
  have K20':Kp w17 w20:=K20.out
  have Kw:Kp w w20:=s20.2.2.2.2.2.2.2.2.2.2.2.2.2.2.2
  clear s17 s17d s18 s19 s20 R18 B19 S19 K18 K19 K20 s35 R35 B35 S35 K35
  go_wp2_with fail
  refine (eqIntS_same v2' v0 L _ O20.out.rd (R0.out.keep (K4g.trans K20')) (by omega)).mono ?_
  rintro e21 w21 ⟨rfl,k21⟩
  have OM3:=Lib.hid (ownsRow_keep OM2.out (K20'.trans k21))
  have Kx:Kp w w21:=Kw.trans k21
  clear OM2 K20' Kw O20 k21
  go_wp2_with fail
  refine (heldIntS_own vv L.length w61.heap.size 1 _ (by omega) (by omega) (by omega) OM3.out).mono ?_
  rintro e22 w22 ⟨rfl,k22⟩
  go_wp2_with fail
  go_ret
  exact ⟨rfl,Kx.trans k22⟩
set_option maxRecDepth 100000 in
theorem contract (H:Type) (enc:TypeId × Value→H) (W:World) (base:Nat) (args:Array Value) (ds gs:List (DataW H)) (before:List MemPlace)
    (hval:∀ (j:Nat) t v,Tryz.f8.params[j]?=some t→args[j]?=some v→Value.okWide Tryz.prog W .any base t v)
    (hW:DataW.Whole enc Tryz.prog Tryz.f8.params.toList Rows.fnExactSuppliedUnitsSpec.vars false W args.toList ds gs before) (hL:laidMetH Tryz.prog Rows.fnExactSuppliedUnitsRow.laid W) :
    Calls Tryz.prog 8 args W fun e W'=>∃ v,e=.returned v∧Rows.fnExactSuppliedUnitsSpec.post enc Tryz.prog Tryz.f8 false true false false W args v W':=by
  have hW':=hW
  obtain ⟨p,q,hA0,hV,rfl,hfz,hnd⟩:=hW
  have hA:DataW.TrodAll enc Tryz.prog W 0 (fun _=>true) true Tryz.f8.params.toList args.toList ds p:=hA0
  rw [Tryz.params8] at hA hval
  obtain ⟨v0,v1,v2,v3,d0,d1,d2,d3,p0,p1,p2,p3,rfl,rfl,rfl,h0,h1,h2,h3⟩:=trodAll_four hA
  obtain ⟨_,_,_,_,_,_,_,_,_,_,_,_,_,_,_,_,_,_,rfl⟩:=lenv18 (trodVars_len hV)
  obtain ⟨At0,Ak0,nt0,nk0,ct0,ck0,l0,m0,a0,b0,c0,d0,e0,W0,H0,x0,r0,y0,lt0,lr0,ld0,rfl,hR0,hI0⟩:=open_board (hval 0 30 v0 rfl rfl) h0
  obtain ⟨T0,Z0,u0,us0,rfl,hR1,_,_⟩:=open_state (hval 1 33 v1 rfl rfl) h1
  obtain ⟨n2,rfl,_,_,wf2⟩:=open_int Tryz.underlying3 (hval 2 3 v2 rfl rfl) h2
  obtain ⟨l3,hl3⟩:=rdI_of_trod (hval 3 26 v3 rfl rfl) h3
  refine (walk At0 Ak0 nt0 nk0 ct0 ck0 l0 m0 a0 b0 c0 d0 e0 W0 H0 x0 r0 y0 lt0 lr0 ld0 T0 Z0 u0 us0 n2 v3 l3 W (laid18_sp hL) (laid18_tab hL) (laid18_un hL) hR0 hR1 (bounds_i64 wf2) hl3).mono fun e W' ⟨he,hg⟩=>?_
  subst he
  exact ⟨_,rfl,law_post hW' laidOut (by kernel_rfl) (by kernel_rfl) (by kernel_rfl) Tryz.underlying4 rfl hg⟩
theorem laid_met (os:Os):laidMet Tryz.prog Rows.fnExactSuppliedUnitsRow.laid ((laidWorldU os).forCall (fun _ _=>0) ⟨#[],#[.agg #[.slice none 0 0,.slice none 0 0,.int .i64 0,.int .i64 0,.int .i64 0,.int .i64 0,.int .i64 0,.int .i64 0,.int .i64 0,.slice none 0 0,.slice none 0 0,.slice none 0 0],.agg #[.int .i64 0,.int .i64 0,.slice none 0 0],.int .i64 0,.slice none 0 0],[]⟩).memory :=
  laidMet_of_run' 8 (by kernel_rfl) (by kernel_rfl)
theorem reads (os:Os) {H:Type} (enc:TypeId × Value→H):∃ ds gs places,DataW.whole enc Tryz.prog ((laidWorldU os).forCall (fun _ _=>0) ⟨#[],#[.agg #[.slice none 0 0,.slice none 0 0,.int .i64 0,.int .i64 0,.int .i64 0,.int .i64 0,.int .i64 0,.int .i64 0,.int .i64 0,.slice none 0 0,.slice none 0 0,.slice none 0 0],.agg #[.int .i64 0,.int .i64 0,.slice none 0 0],.int .i64 0,.slice none 0 0],[]⟩).memory Tryz.f8.params.toList Rows.fnExactSuppliedUnitsSpec.vars false #[.agg #[.slice none 0 0,.slice none 0 0,.int .i64 0,.int .i64 0,.int .i64 0,.int .i64 0,.int .i64 0,.int .i64 0,.int .i64 0,.slice none 0 0,.slice none 0 0,.slice none 0 0],.agg #[.int .i64 0,.int .i64 0,.slice none 0 0],.int .i64 0,.slice none 0 0].toList 8=some (ds,gs,places) :=
  ⟨[.agg [.agg [.nil,.nil,.lit (.int .i64 0),.lit (.int .i64 0),.lit (.int .i64 0),.lit (.int .i64 0),.lit (.int .i64 0)],.agg [.lit (.int .i64 0),.lit (.int .i64 0),.nil,.nil,.nil]],.agg [.lit (.int .i64 0),.lit (.int .i64 0),.nil],.lit (.int .i64 0),.nil],[Rows.laid_loop_example_g00886_impl_sideSpan,Rows.laid_loop_example_g00886_impl_terrainsSpan,Rows.laid_loop_example_g00886_impl_kindsSpan,Rows.laid_loop_example_g00886_impl_stackSpan,Rows.laid_loop_example_g00886_impl_riverSpan,Rows.laid_loop_example_g00886_impl_roadSpan,Rows.laid_loop_example_g00886_impl_supplySpan,Rows.laid_loop_example_g00886_impl_turnsSpan,Rows.laid_loop_example_g00886_impl_costSpan,Rows.laid_loop_example_g00886_impl_shiftSpan,Rows.laid_loop_example_g00886_impl_heightSpan,Rows.laid_loop_example_g00886_impl_strengthSpan,Rows.laid_loop_example_g00886_impl_movesSpan,Rows.laid_loop_example_g00886_impl_stepsSpan,Rows.laid_loop_example_g00886_impl_viewSpan,Rows.laid_loop_example_g00886_impl_directionSteps,Rows.laid_loop_example_g00886_impl_weatherSpan,Rows.laid_loop_example_g00886_impl_unitsSpan],MemPlace.row ⟨0,0,none⟩ 2 ++ (MemPlace.row ⟨4,0,none⟩ 2 ++ (MemPlace.row ⟨5,0,none⟩ 2 ++ (MemPlace.row ⟨6,0,none⟩ 2 ++ (MemPlace.row ⟨7,0,none⟩ 2 ++ (MemPlace.row ⟨8,0,none⟩ 2 ++ (MemPlace.row ⟨9,0,none⟩ 2 ++ (MemPlace.row ⟨10,0,none⟩ 2 ++ (MemPlace.row ⟨11,0,none⟩ 2 ++ (MemPlace.row ⟨12,0,none⟩ 2 ++ (MemPlace.row ⟨13,0,none⟩ 2 ++ (MemPlace.row ⟨14,0,none⟩ 2 ++ (MemPlace.row ⟨15,0,none⟩ 2 ++ (MemPlace.row ⟨16,0,none⟩ 2 ++ (MemPlace.row ⟨17,0,none⟩ 2 ++ (MemPlace.row ⟨3,0,none⟩ 12 ++ (MemPlace.row ⟨1,0,none⟩ 2 ++ (MemPlace.row ⟨2,0,none⟩ 2))))))))))))))))),by kernel_rfl⟩
set_option maxRecDepth 100000 in
theorem lifted (os:Os) (started:os.Started) (H:Type) (enc:TypeId × Value→H) (F:Stop.Interp) :
    ReturnsInHanded {} Tryz.checked os 8 .any ((OpenSpec.ofChange Rows.fnExactSuppliedUnitsSpec).preRow enc Tryz.prog Tryz.f8 Rows.fnExactSuppliedUnitsRow.domain false Rows.fnExactSuppliedUnitsRow.laid) (((OpenSpec.ofChange Rows.fnExactSuppliedUnitsSpec).at F).post enc Tryz.prog Tryz.f8 false true false false):=by
  obtain ⟨ds,gs,places,hx⟩:=reads os enc
  refine returnsInHanded_of_row (C:=Tryz.checked) (s:=OpenSpec.ofChange Rows.fnExactSuppliedUnitsSpec) own started (by kernel_rfl) Tryz.func8
    (witness_row_at (enc:=enc) (C:=Tryz.checked) false (laidWorldU os) #[.agg #[.slice none 0 0,.slice none 0 0,.int .i64 0,.int .i64 0,.int .i64 0,.int .i64 0,.int .i64 0,.int .i64 0,.int .i64 0,.slice none 0 0,.slice none 0 0,.slice none 0 0],.agg #[.int .i64 0,.int .i64 0,.slice none 0 0],.int .i64 0,.slice none 0 0] rfl (by kernel_rfl) (by kernel_rfl) (by kernel_rfl)
      (OpenSpec.preRow_of_cond 8 hx (by kernel_rfl) (fun k hk=>by cases hk) (by kernel_rfl) (laid_met os))) ?_
  intro W base args ds gs before hval hW _ _ _ hL _ _
  exact contract H enc W base args ds gs before hval hW hL
theorem said:Rows.FnExactSuppliedUnitsSaid :=
  OpenClaim.holds_of_cond 8 Tryz.f8 rfl rfl rfl rfl rfl rfl rfl ⟨rfl,rfl,rfl,rfl,rfl⟩ rfl rfl rfl rfl rfl (by kernel_rfl) Tryz.func8 suppliedUnitsFacts.suppliedUnitsClosed
    (of_decide_eq_true (by kernel_rfl)) (by unfold Func.isWrapper;first | (rw [if_pos (by decide +kernel)];kernel_rfl) | (rw [if_neg (by decide +kernel)];exact ⟨rfl,rfl⟩))
    (fun os started H enc _ F=>by rw [OpenClaim.pre_eq_preRow];exact lifted os started H enc F)
theorem plain (f:FuncId) (fn:Func) (hf:Tryz.pinned.checked.prog.funcNamed "loop.example/g00886/laws.FnExactSuppliedUnits"=some f) (hfn:Tryz.pinned.checked.prog.funcs[f]?=some fn) :
    false=Tryz.pinned.checked.prog.looks []∧∀ (j:Nat) t,fn.params[j]?=some t→Tryz.pinned.checked.prog.wantsStandIn t=false:=by
  obtain rfl:f=8:=Option.some.inj ((show Tryz.prog.funcNamed "loop.example/g00886/laws.FnExactSuppliedUnits"=some 8 by kernel_rfl).symm.trans hf) |>.symm
  obtain rfl:fn=Tryz.f8:=(Option.some.inj (Tryz.func8.symm.trans hfn)).symm
  refine ⟨by kernel_rfl,fun j t ht=>?_⟩
  rw [Tryz.params8] at ht
  have hm:=Array.mem_of_getElem? ht
  simp only [List.mem_toArray,List.mem_cons,List.not_mem_nil,or_false] at hm
  rcases hm with rfl | rfl | rfl | rfl
  · exact (show Tryz.prog.wantsStandIn 30=false by kernel_rfl)
  · exact (show Tryz.prog.wantsStandIn 33=false by kernel_rfl)
  · exact (show Tryz.prog.wantsStandIn 3=false by kernel_rfl)
  · exact (show Tryz.prog.wantsStandIn 26=false by kernel_rfl)
/-- The card: the row, with what it lists tied to the program's text. -/
theorem card:Rows.FnExactSuppliedUnitsCardSaid :=
  Claim7.holds_tied_plain_at .later [] _ _ _ _ said (fun _ h=>by cases h) (by kernel_rfl) (fun _ h=>by cases h) fnExactSuppliedUnits_row_tie rfl ⟨rfl,rfl⟩ (by kernel_rfl) rfl plain (by kernel_rfl)
#print axioms card
end Go.Proofs.YtgefinicjphmpaaGreatDoor.suppliedUnitsLaw
