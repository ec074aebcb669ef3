/-
 The law on LoseUnsupplied holds at every argument: the program's answer is the reference's, in memory of its own, and the arguments read as before. The named variables hold what the program's text lays (the card ties them).
-/
import Derived.Test.YtacgknllagdkoaaGreatDoorSuL
import Derived.Deep.Cut
import Derived.Deep.DeepCutAuto
import Derived.Test.YtacgknllagdkoaaGreatDoorSuQ
import Derived.Test.YtacgknllagdkoaaGreatDoorQa
import Derived.Test.YtacgknllagdkoaaGreatDoorQl
import Derived.Test.YtacgknllagdkoaaGreatDoorQt
import Derived.Test.YtacgknllagdkoaaGreatDoorQa
namespace Go.Proofs.YtacgknllagdkoaaGreatDoor.loseUnsuppliedLaw
open Go.ChangeShapes Go.WideShapes Go.ChangeAt Go.RowKit Go.Joins
theorem keep15k {W0 w w1:World} {p0 p1 p2 p3 p4 p5 p6 p7 p8 p9 p10 p11 p12 p13 p14:Addr} {v0 v1 v2 v3 v4 v5 v6 v7 v8 v9 v10 v11 v12 v13 v14:Value} (k:Kp w w1) (h:w.cell? p0=some v0∧w.cell? p1=some v1∧w.cell? p2=some v2∧w.cell? p3=some v3∧w.cell? p4=some v4∧w.cell? p5=some v5∧w.cell? p6=some v6∧w.cell? p7=some v7∧w.cell? p8=some v8∧w.cell? p9=some v9∧w.cell? p10=some v10∧w.cell? p11=some v11∧w.cell? p12=some v12∧w.cell? p13=some v13∧w.cell? p14=some v14∧Kp W0 w):w1.cell? p0=some v0∧w1.cell? p1=some v1∧w1.cell? p2=some v2∧w1.cell? p3=some v3∧w1.cell? p4=some v4∧w1.cell? p5=some v5∧w1.cell? p6=some v6∧w1.cell? p7=some v7∧w1.cell? p8=some v8∧w1.cell? p9=some v9∧w1.cell? p10=some v10∧w1.cell? p11=some v11∧w1.cell? p12=some v12∧w1.cell? p13=some v13∧w1.cell? p14=some v14∧Kp W0 w1 :=
 ⟨k.cell h.1,k.cell h.2.1,k.cell h.2.2.1,k.cell h.2.2.2.1,k.cell h.2.2.2.2.1,k.cell h.2.2.2.2.2.1,k.cell h.2.2.2.2.2.2.1,k.cell h.2.2.2.2.2.2.2.1,k.cell h.2.2.2.2.2.2.2.2.1,k.cell h.2.2.2.2.2.2.2.2.2.1,k.cell h.2.2.2.2.2.2.2.2.2.2.1,k.cell h.2.2.2.2.2.2.2.2.2.2.2.1,k.cell h.2.2.2.2.2.2.2.2.2.2.2.2.1,k.cell h.2.2.2.2.2.2.2.2.2.2.2.2.2.1,k.cell h.2.2.2.2.2.2.2.2.2.2.2.2.2.2.1,h.2.2.2.2.2.2.2.2.2.2.2.2.2.2.2.trans k⟩
theorem drew15k {W0 w:World} {p0 p1 p2 p3 p4 p5 p6 p7 p8 p9 p10 p11 p12 p13 p14:Addr} {v0 v1 v2 v3 v4 v5 v6 v7 v8 v9 v10 v11 v12 v13 v14:Value} (h:w.cell? p0=some v0∧w.cell? p1=some v1∧w.cell? p2=some v2∧w.cell? p3=some v3∧w.cell? p4=some v4∧w.cell? p5=some v5∧w.cell? p6=some v6∧w.cell? p7=some v7∧w.cell? p8=some v8∧w.cell? p9=some v9∧w.cell? p10=some v10∧w.cell? p11=some v11∧w.cell? p12=some v12∧w.cell? p13=some v13∧w.cell? p14=some v14∧Kp W0 w):w.drew.cell? p0=some v0∧w.drew.cell? p1=some v1∧w.drew.cell? p2=some v2∧w.drew.cell? p3=some v3∧w.drew.cell? p4=some v4∧w.drew.cell? p5=some v5∧w.drew.cell? p6=some v6∧w.drew.cell? p7=some v7∧w.drew.cell? p8=some v8∧w.drew.cell? p9=some v9∧w.drew.cell? p10=some v10∧w.drew.cell? p11=some v11∧w.drew.cell? p12=some v12∧w.drew.cell? p13=some v13∧w.drew.cell? p14=some v14∧Kp W0 w.drew :=
 ⟨h.1,h.2.1,h.2.2.1,h.2.2.2.1,h.2.2.2.2.1,h.2.2.2.2.2.1,h.2.2.2.2.2.2.1,h.2.2.2.2.2.2.2.1,h.2.2.2.2.2.2.2.2.1,h.2.2.2.2.2.2.2.2.2.1,h.2.2.2.2.2.2.2.2.2.2.1,h.2.2.2.2.2.2.2.2.2.2.2.1,h.2.2.2.2.2.2.2.2.2.2.2.2.1,h.2.2.2.2.2.2.2.2.2.2.2.2.2.1,h.2.2.2.2.2.2.2.2.2.2.2.2.2.2.1,h.2.2.2.2.2.2.2.2.2.2.2.2.2.2.2.drew⟩
theorem keep27k {W0 w w1:World} {p0 p1 p2 p3 p4 p5 p6 p7 p8 p9 p10 p11 p12 p13 p14 p15 p16 p17 p18 p19 p20 p21 p22 p23 p24 p25 p26:Addr} {v0 v1 v2 v3 v4 v5 v6 v7 v8 v9 v10 v11 v12 v13 v14 v15 v16 v17 v18 v19 v20 v21 v22 v23 v24 v25 v26:Value} (k:Kp w w1) (h:w.cell? p0=some v0∧w.cell? p1=some v1∧w.cell? p2=some v2∧w.cell? p3=some v3∧w.cell? p4=some v4∧w.cell? p5=some v5∧w.cell? p6=some v6∧w.cell? p7=some v7∧w.cell? p8=some v8∧w.cell? p9=some v9∧w.cell? p10=some v10∧w.cell? p11=some v11∧w.cell? p12=some v12∧w.cell? p13=some v13∧w.cell? p14=some v14∧w.cell? p15=some v15∧w.cell? p16=some v16∧w.cell? p17=some v17∧w.cell? p18=some v18∧w.cell? p19=some v19∧w.cell? p20=some v20∧w.cell? p21=some v21∧w.cell? p22=some v22∧w.cell? p23=some v23∧w.cell? p24=some v24∧w.cell? p25=some v25∧w.cell? p26=some v26∧Kp W0 w):w1.cell? p0=some v0∧w1.cell? p1=some v1∧w1.cell? p2=some v2∧w1.cell? p3=some v3∧w1.cell? p4=some v4∧w1.cell? p5=some v5∧w1.cell? p6=some v6∧w1.cell? p7=some v7∧w1.cell? p8=some v8∧w1.cell? p9=some v9∧w1.cell? p10=some v10∧w1.cell? p11=some v11∧w1.cell? p12=some v12∧w1.cell? p13=some v13∧w1.cell? p14=some v14∧w1.cell? p15=some v15∧w1.cell? p16=some v16∧w1.cell? p17=some v17∧w1.cell? p18=some v18∧w1.cell? p19=some v19∧w1.cell? p20=some v20∧w1.cell? p21=some v21∧w1.cell? p22=some v22∧w1.cell? p23=some v23∧w1.cell? p24=some v24∧w1.cell? p25=some v25∧w1.cell? p26=some v26∧Kp W0 w1 :=
 ⟨k.cell h.1,k.cell h.2.1,k.cell h.2.2.1,k.cell h.2.2.2.1,k.cell h.2.2.2.2.1,k.cell h.2.2.2.2.2.1,k.cell h.2.2.2.2.2.2.1,k.cell h.2.2.2.2.2.2.2.1,k.cell h.2.2.2.2.2.2.2.2.1,k.cell h.2.2.2.2.2.2.2.2.2.1,k.cell h.2.2.2.2.2.2.2.2.2.2.1,k.cell h.2.2.2.2.2.2.2.2.2.2.2.1,k.cell h.2.2.2.2.2.2.2.2.2.2.2.2.1,k.cell h.2.2.2.2.2.2.2.2.2.2.2.2.2.1,k.cell h.2.2.2.2.2.2.2.2.2.2.2.2.2.2.1,k.cell h.2.2.2.2.2.2.2.2.2.2.2.2.2.2.2.1,k.cell h.2.2.2.2.2.2.2.2.2.2.2.2.2.2.2.2.1,k.cell h.2.2.2.2.2.2.2.2.2.2.2.2.2.2.2.2.2.1,k.cell h.2.2.2.2.2.2.2.2.2.2.2.2.2.2.2.2.2.2.1,k.cell h.2.2.2.2.2.2.2.2.2.2.2.2.2.2.2.2.2.2.2.1,k.cell h.2.2.2.2.2.2.2.2.2.2.2.2.2.2.2.2.2.2.2.2.1,k.cell h.2.2.2.2.2.2.2.2.2.2.2.2.2.2.2.2.2.2.2.2.2.1,k.cell h.2.2.2.2.2.2.2.2.2.2.2.2.2.2.2.2.2.2.2.2.2.2.1,k.cell h.2.2.2.2.2.2.2.2.2.2.2.2.2.2.2.2.2.2.2.2.2.2.2.1,k.cell h.2.2.2.2.2.2.2.2.2.2.2.2.2.2.2.2.2.2.2.2.2.2.2.2.1,k.cell h.2.2.2.2.2.2.2.2.2.2.2.2.2.2.2.2.2.2.2.2.2.2.2.2.2.1,k.cell h.2.2.2.2.2.2.2.2.2.2.2.2.2.2.2.2.2.2.2.2.2.2.2.2.2.2.1,h.2.2.2.2.2.2.2.2.2.2.2.2.2.2.2.2.2.2.2.2.2.2.2.2.2.2.2.trans k⟩
theorem keep30k {W0 w w1:World} {p0 p1 p2 p3 p4 p5 p6 p7 p8 p9 p10 p11 p12 p13 p14 p15 p16 p17 p18 p19 p20 p21 p22 p23 p24 p25 p26 p27 p28 p29:Addr} {v0 v1 v2 v3 v4 v5 v6 v7 v8 v9 v10 v11 v12 v13 v14 v15 v16 v17 v18 v19 v20 v21 v22 v23 v24 v25 v26 v27 v28 v29:Value} (k:Kp w w1) (h:w.cell? p0=some v0∧w.cell? p1=some v1∧w.cell? p2=some v2∧w.cell? p3=some v3∧w.cell? p4=some v4∧w.cell? p5=some v5∧w.cell? p6=some v6∧w.cell? p7=some v7∧w.cell? p8=some v8∧w.cell? p9=some v9∧w.cell? p10=some v10∧w.cell? p11=some v11∧w.cell? p12=some v12∧w.cell? p13=some v13∧w.cell? p14=some v14∧w.cell? p15=some v15∧w.cell? p16=some v16∧w.cell? p17=some v17∧w.cell? p18=some v18∧w.cell? p19=some v19∧w.cell? p20=some v20∧w.cell? p21=some v21∧w.cell? p22=some v22∧w.cell? p23=some v23∧w.cell? p24=some v24∧w.cell? p25=some v25∧w.cell? p26=some v26∧w.cell? p27=some v27∧w.cell? p28=some v28∧w.cell? p29=some v29∧Kp W0 w):w1.cell? p0=some v0∧w1.cell? p1=some v1∧w1.cell? p2=some v2∧w1.cell? p3=some v3∧w1.cell? p4=some v4∧w1.cell? p5=some v5∧w1.cell? p6=some v6∧w1.cell? p7=some v7∧w1.cell? p8=some v8∧w1.cell? p9=some v9∧w1.cell? p10=some v10∧w1.cell? p11=some v11∧w1.cell? p12=some v12∧w1.cell? p13=some v13∧w1.cell? p14=some v14∧w1.cell? p15=some v15∧w1.cell? p16=some v16∧w1.cell? p17=some v17∧w1.cell? p18=some v18∧w1.cell? p19=some v19∧w1.cell? p20=some v20∧w1.cell? p21=some v21∧w1.cell? p22=some v22∧w1.cell? p23=some v23∧w1.cell? p24=some v24∧w1.cell? p25=some v25∧w1.cell? p26=some v26∧w1.cell? p27=some v27∧w1.cell? p28=some v28∧w1.cell? p29=some v29∧Kp W0 w1 :=
 ⟨k.cell h.1,k.cell h.2.1,k.cell h.2.2.1,k.cell h.2.2.2.1,k.cell h.2.2.2.2.1,k.cell h.2.2.2.2.2.1,k.cell h.2.2.2.2.2.2.1,k.cell h.2.2.2.2.2.2.2.1,k.cell h.2.2.2.2.2.2.2.2.1,k.cell h.2.2.2.2.2.2.2.2.2.1,k.cell h.2.2.2.2.2.2.2.2.2.2.1,k.cell h.2.2.2.2.2.2.2.2.2.2.2.1,k.cell h.2.2.2.2.2.2.2.2.2.2.2.2.1,k.cell h.2.2.2.2.2.2.2.2.2.2.2.2.2.1,k.cell h.2.2.2.2.2.2.2.2.2.2.2.2.2.2.1,k.cell h.2.2.2.2.2.2.2.2.2.2.2.2.2.2.2.1,k.cell h.2.2.2.2.2.2.2.2.2.2.2.2.2.2.2.2.1,k.cell h.2.2.2.2.2.2.2.2.2.2.2.2.2.2.2.2.2.1,k.cell h.2.2.2.2.2.2.2.2.2.2.2.2.2.2.2.2.2.2.1,k.cell h.2.2.2.2.2.2.2.2.2.2.2.2.2.2.2.2.2.2.2.1,k.cell h.2.2.2.2.2.2.2.2.2.2.2.2.2.2.2.2.2.2.2.2.1,k.cell h.2.2.2.2.2.2.2.2.2.2.2.2.2.2.2.2.2.2.2.2.2.1,k.cell h.2.2.2.2.2.2.2.2.2.2.2.2.2.2.2.2.2.2.2.2.2.2.1,k.cell h.2.2.2.2.2.2.2.2.2.2.2.2.2.2.2.2.2.2.2.2.2.2.2.1,k.cell h.2.2.2.2.2.2.2.2.2.2.2.2.2.2.2.2.2.2.2.2.2.2.2.2.1,k.cell h.2.2.2.2.2.2.2.2.2.2.2.2.2.2.2.2.2.2.2.2.2.2.2.2.2.1,k.cell h.2.2.2.2.2.2.2.2.2.2.2.2.2.2.2.2.2.2.2.2.2.2.2.2.2.2.1,k.cell h.2.2.2.2.2.2.2.2.2.2.2.2.2.2.2.2.2.2.2.2.2.2.2.2.2.2.2.1,k.cell h.2.2.2.2.2.2.2.2.2.2.2.2.2.2.2.2.2.2.2.2.2.2.2.2.2.2.2.2.1,k.cell h.2.2.2.2.2.2.2.2.2.2.2.2.2.2.2.2.2.2.2.2.2.2.2.2.2.2.2.2.2.1,h.2.2.2.2.2.2.2.2.2.2.2.2.2.2.2.2.2.2.2.2.2.2.2.2.2.2.2.2.2.2.trans k⟩
theorem drew30k {W0 w:World} {p0 p1 p2 p3 p4 p5 p6 p7 p8 p9 p10 p11 p12 p13 p14 p15 p16 p17 p18 p19 p20 p21 p22 p23 p24 p25 p26 p27 p28 p29:Addr} {v0 v1 v2 v3 v4 v5 v6 v7 v8 v9 v10 v11 v12 v13 v14 v15 v16 v17 v18 v19 v20 v21 v22 v23 v24 v25 v26 v27 v28 v29:Value} (h:w.cell? p0=some v0∧w.cell? p1=some v1∧w.cell? p2=some v2∧w.cell? p3=some v3∧w.cell? p4=some v4∧w.cell? p5=some v5∧w.cell? p6=some v6∧w.cell? p7=some v7∧w.cell? p8=some v8∧w.cell? p9=some v9∧w.cell? p10=some v10∧w.cell? p11=some v11∧w.cell? p12=some v12∧w.cell? p13=some v13∧w.cell? p14=some v14∧w.cell? p15=some v15∧w.cell? p16=some v16∧w.cell? p17=some v17∧w.cell? p18=some v18∧w.cell? p19=some v19∧w.cell? p20=some v20∧w.cell? p21=some v21∧w.cell? p22=some v22∧w.cell? p23=some v23∧w.cell? p24=some v24∧w.cell? p25=some v25∧w.cell? p26=some v26∧w.cell? p27=some v27∧w.cell? p28=some v28∧w.cell? p29=some v29∧Kp W0 w):w.drew.cell? p0=some v0∧w.drew.cell? p1=some v1∧w.drew.cell? p2=some v2∧w.drew.cell? p3=some v3∧w.drew.cell? p4=some v4∧w.drew.cell? p5=some v5∧w.drew.cell? p6=some v6∧w.drew.cell? p7=some v7∧w.drew.cell? p8=some v8∧w.drew.cell? p9=some v9∧w.drew.cell? p10=some v10∧w.drew.cell? p11=some v11∧w.drew.cell? p12=some v12∧w.drew.cell? p13=some v13∧w.drew.cell? p14=some v14∧w.drew.cell? p15=some v15∧w.drew.cell? p16=some v16∧w.drew.cell? p17=some v17∧w.drew.cell? p18=some v18∧w.drew.cell? p19=some v19∧w.drew.cell? p20=some v20∧w.drew.cell? p21=some v21∧w.drew.cell? p22=some v22∧w.drew.cell? p23=some v23∧w.drew.cell? p24=some v24∧w.drew.cell? p25=some v25∧w.drew.cell? p26=some v26∧w.drew.cell? p27=some v27∧w.drew.cell? p28=some v28∧w.drew.cell? p29=some v29∧Kp W0 w.drew :=
 ⟨h.1,h.2.1,h.2.2.1,h.2.2.2.1,h.2.2.2.2.1,h.2.2.2.2.2.1,h.2.2.2.2.2.2.1,h.2.2.2.2.2.2.2.1,h.2.2.2.2.2.2.2.2.1,h.2.2.2.2.2.2.2.2.2.1,h.2.2.2.2.2.2.2.2.2.2.1,h.2.2.2.2.2.2.2.2.2.2.2.1,h.2.2.2.2.2.2.2.2.2.2.2.2.1,h.2.2.2.2.2.2.2.2.2.2.2.2.2.1,h.2.2.2.2.2.2.2.2.2.2.2.2.2.2.1,h.2.2.2.2.2.2.2.2.2.2.2.2.2.2.2.1,h.2.2.2.2.2.2.2.2.2.2.2.2.2.2.2.2.1,h.2.2.2.2.2.2.2.2.2.2.2.2.2.2.2.2.2.1,h.2.2.2.2.2.2.2.2.2.2.2.2.2.2.2.2.2.2.1,h.2.2.2.2.2.2.2.2.2.2.2.2.2.2.2.2.2.2.2.1,h.2.2.2.2.2.2.2.2.2.2.2.2.2.2.2.2.2.2.2.2.1,h.2.2.2.2.2.2.2.2.2.2.2.2.2.2.2.2.2.2.2.2.2.1,h.2.2.2.2.2.2.2.2.2.2.2.2.2.2.2.2.2.2.2.2.2.2.1,h.2.2.2.2.2.2.2.2.2.2.2.2.2.2.2.2.2.2.2.2.2.2.2.1,h.2.2.2.2.2.2.2.2.2.2.2.2.2.2.2.2.2.2.2.2.2.2.2.2.1,h.2.2.2.2.2.2.2.2.2.2.2.2.2.2.2.2.2.2.2.2.2.2.2.2.2.1,h.2.2.2.2.2.2.2.2.2.2.2.2.2.2.2.2.2.2.2.2.2.2.2.2.2.2.1,h.2.2.2.2.2.2.2.2.2.2.2.2.2.2.2.2.2.2.2.2.2.2.2.2.2.2.2.1,h.2.2.2.2.2.2.2.2.2.2.2.2.2.2.2.2.2.2.2.2.2.2.2.2.2.2.2.2.1,h.2.2.2.2.2.2.2.2.2.2.2.2.2.2.2.2.2.2.2.2.2.2.2.2.2.2.2.2.2.1,h.2.2.2.2.2.2.2.2.2.2.2.2.2.2.2.2.2.2.2.2.2.2.2.2.2.2.2.2.2.2.drew⟩
theorem UniI.losAll {us:List Uni} {g:Uni→Bool} (h:∀ x ∈ us,UniI x) (ht:∀ x ∈ us,0≤x.t):∀ x ∈ lsU g us,UniI x:=by
 intro x hx
 unfold lsU at hx
 obtain⟨y,hy,rfl⟩:=List.mem_map.1 hx
 obtain⟨a,b,c,d⟩:=h y hy
 have h0:=ht y hy
 split
 ·unfold loU
  split
  ·exact⟨a,b,by simp only [isI64];omega,by simp only [isI64];omega⟩
  ·exact⟨a,b,c,by simp only [isI64] at *;omega⟩
 ·exact⟨a,b,c,d⟩
theorem liv_new {w:World} {p:Addr} {v:Value} {Q:Prop} (_h:w.cell? p=some v∧Q):LivS (w.alloc (.cells #[.int .i64 0,.int .i64 0,.slice none 0 0] 51)) w.heap.size (.int .i64 0) (.int .i64 0) (.slice none 0 0)∧Kp w (w.alloc (.cells #[.int .i64 0,.int .i64 0,.slice none 0 0] 51)):=⟨⟨by simp [go_sem],by simp [go_sem],by simp [go_sem]⟩,(Kp.refl w).alloc _⟩
set_option maxRecDepth 100000 in
set_option maxHeartbeats 16000000 in
theorem walk (At Ak:Option Addr) (nt nk ct ck:Nat) (l:List Ter) (m:List Knd) (a b c d e W H:Int) (x r y:Value) (lt lr ld:List Int) (T Z:Int) (u:Value) (us:List Uni) (sd:Int) (v:Value) (p:List Int) (w:World) (h0:Spans w) (h1:Tab w) (h2:SpU w) (hr:BrdIn w At Ak nt nk l m x r y lt lr ld) (hr2:StaIn w u us) (_hsd:isI64 sd) (hp:RdI w v p) :
  Calls Tryz.prog 11 #[bv (.slice At nt ct) (.slice Ak nk ck) a b c d e W H x r y,sv T Z u,.int .i64 sd,v] w fun e' w'=>e'=.returned (.bool true)∧Kp w w':=by
 have HP:=Lib.hid hp
 by_cases hbig:¬ p.length≤1048576
 ·obtain⟨A9,c9,rfl,_⟩:=hp
  have hbig':(1048576:Int)<(p.length:Int):=by omega
  clear hr hr2 h0 h1 h2 HP
  go_enter Tryz.func11,Tryz.ntmps11
  go_wp2_with fail
  go_ret
  exact⟨rfl,((Kp.refl _).alloc _).alloc _⟩
 have hpl:p.length≤1048576:=by omega
 have hle:¬ (1048576:Int)<(p.length:Int):=by omega
 have CT:=Lib.hid (fun v w h=>toIntS_any v p w h hpl)
 clear hbig
 have HR:=Lib.hid hr
 have HU:=Lib.hid hr2
 have HS0:=Lib.hid h0
 have HS1:=Lib.hid h1
 have HS2:=Lib.hid h2
 obtain⟨mt,e1⟩:∃ n,lt.length=n:=⟨_,rfl⟩
 obtain⟨mr,e2⟩:∃ n,lr.length=n:=⟨_,rfl⟩
 obtain⟨md,e3⟩:∃ n,ld.length=n:=⟨_,rfl⟩
 have HE1:=Lib.hid e1
 have HE2:=Lib.hid e2
 have HE3:=Lib.hid e3
 clear e1 e2 e3
 obtain⟨mu,e4⟩:∃ n,us.length=n:=⟨_,rfl⟩
 have HE4:=Lib.hid e4
 clear e4
 obtain⟨B,hB⟩:∃ z,z=(((brdOk ⟨l,m,a,b,c,d,e⟩ W H lt lr ld && staOk ⟨l,m,a,b,c,d,e⟩ W H lt T Z us) && spB 0 1 sd) && srcOk W H p):=⟨_,rfl⟩
 obtain⟨LL,hLL⟩:∃ z,z=(if (((brdOk ⟨l,m,a,b,c,d,e⟩ W H lt lr ld && staOk ⟨l,m,a,b,c,d,e⟩ W H lt T Z us) && spB 0 1 sd) && srcOk W H p)=true then lsU (fun z=>ofSide0 sd z && !supU l m lt lr ld W us H d p z) us else []):=⟨_,rfl⟩
 obtain⟨X,hX⟩:∃ z,z=vI (((brdOk ⟨l,m,a,b,c,d,e⟩ W H lt lr ld && staOk ⟨l,m,a,b,c,d,e⟩ W H lt T Z us) && spB 0 1 sd) && srcOk W H p) T:=⟨_,rfl⟩
 obtain⟨Y,hY⟩:∃ z,z=vI (((brdOk ⟨l,m,a,b,c,d,e⟩ W H lt lr ld && staOk ⟨l,m,a,b,c,d,e⟩ W H lt T Z us) && spB 0 1 sd) && srcOk W H p) Z:=⟨_,rfl⟩
 obtain⟨nL,hnL⟩:∃ z,LL.length=z:=⟨_,rfl⟩
 have HNL:=Lib.hid hnL
 have CS:Hid (∀ (At Ak:Option Addr) (ct ck:Nat) (x r y:Value) (gS oS cS:Nat) (v:Value) (w:World),BrdAt w At Ak nt nk l m x r y lt lr ld→StaAt w (.slice (some ⟨gS,oS,none⟩) mu cS) us→RdI w v p→Calls Tryz.prog 50 #[bv (.slice At nt ct) (.slice Ak nk ck) a b c d e W H x r y,sv T Z (.slice (some ⟨gS,oS,none⟩) mu cS),.int .i64 sd,v] w fun e' w'=>∃ (A:Option Addr) (c:Nat),e'=.returned (.tuple #[sv X Y (.slice A nL c),.bool B])∧OwnU w' w.heap.size (.slice A nL c) LL∧Kp w w'):=Lib.hid fun At Ak ct ck x r y gS oS cS v w hb hu hv=>by
  obtain⟨A9,c9,rfl,_⟩:=id hv
  refine(specLoseUnsupplied_any At Ak nt nk ct ck l m a b c d e W H x r y lt lr ld T Z gS oS mu cS us sd A9 p.length c9 p w hb hu HE4.out hv hpl).mono ?_
  rintro e' w' ⟨v,he,ho,hk⟩
  rw [← hLL] at ho
  obtain⟨A1,c1,hv⟩:=ho.slice
  rw [hnL] at hv
  subst hv
  exact⟨A1,c1,by rw [he,← hX,← hY,← hB],ho,hk⟩
 have CI:Hid (∀ (At Ak:Option Addr) (ct ck:Nat) (x r y:Value) (gS oS cS:Nat) (v:Value) (w:World),BrdAt w At Ak nt nk l m x r y lt lr ld→StaAt w (.slice (some ⟨gS,oS,none⟩) mu cS) us→RdI w v p→Spans w→Tab w→SpU w→Calls Tryz.prog 52 #[bv (.slice At nt ct) (.slice Ak nk ck) a b c d e W H x r y,sv T Z (.slice (some ⟨gS,oS,none⟩) mu cS),.int .i64 sd,v] w fun e' w'=>∃ (A:Option Addr) (c:Nat),e'=.returned (.tuple #[sv X Y (.slice A nL c),.bool B])∧OwnU w' w.heap.size (.slice A nL c) LL∧Kp w w'):=Lib.hid fun At Ak ct ck x r y gS oS cS v w hb hu hv h0 h1 h2=>by
  obtain⟨A9,c9,rfl,_⟩:=id hv
  refine(loseUnsuppliedP_any At Ak nt nk ct ck l m a b c d e W H x r y lt lr ld T Z gS oS mu cS us sd A9 p.length c9 p w h0 h1 h2 hb hu HE4.out hv hpl).mono ?_
  rintro e' w' ⟨v,he,ho,hk⟩
  rw [← hLL] at ho
  obtain⟨A1,c1,hv⟩:=ho.slice
  rw [hnL] at hv
  subst hv
  exact⟨A1,c1,by rw [he,← hX,← hY,← hB],ho,hk⟩
 have HLe:Hid (nL≤mu):=Lib.hid (by
  rw [← hnL,hLL,← HE4.out]
  split
  ·rw [lsU_len];exact Nat.le_refl _
  ·simp)
 have HIL:Hid (∀ x ∈ LL,UniI x):=Lib.hid (by
  rw [hLL]
  split
  ·exact(by rename_i h9;simp only [Bool.and_eq_true] at h9;exact UniI.losAll hr2.i fun x9 hx9=>(uniOk_side ((staOk_parts h9.1.1.2).2.2.1 x9 hx9)).2.2.1.1)
  ·intro x9 hx9;simp at hx9)
 have eB:(B != B)=false:=by simp
 clear hr hr2 h0 h1 h2 hB hX hY hLL hnL
 obtain⟨A9,c9,rfl,_⟩:=hp
 have s0:cb12 ((w.alloc (.cells #[.slice At nt ct,.slice Ak nk ck,.int .i64 a,.int .i64 b,.int .i64 c,.int .i64 d,.int .i64 e,.int .i64 W,.int .i64 H,x,r,y] 30)).alloc (.cells #[.int .i64 T,.int .i64 Z,u] 33)) (w.heap.size) (.slice At nt ct) (.slice Ak nk ck) (.int .i64 a) (.int .i64 b) (.int .i64 c) (.int .i64 d) (.int .i64 e) (.int .i64 W) (.int .i64 H) (x) (r) (y) (cb3 ((w.alloc (.cells #[.slice At nt ct,.slice Ak nk ck,.int .i64 a,.int .i64 b,.int .i64 c,.int .i64 d,.int .i64 e,.int .i64 W,.int .i64 H,x,r,y] 30)).alloc (.cells #[.int .i64 T,.int .i64 Z,u] 33)) (w.heap.size+1) (.int .i64 T) (.int .i64 Z) (u) (Kp w ((w.alloc (.cells #[.slice At nt ct,.slice Ak nk ck,.int .i64 a,.int .i64 b,.int .i64 c,.int .i64 d,.int .i64 e,.int .i64 W,.int .i64 H,x,r,y] 30)).alloc (.cells #[.int .i64 T,.int .i64 Z,u] 33)))):=⟨by simp [go_sem],by simp [go_sem],by simp [go_sem],by simp [go_sem],by simp [go_sem],by simp [go_sem],by simp [go_sem],by simp [go_sem],by simp [go_sem],by simp [go_sem],by simp [go_sem],by simp [go_sem],by simp [go_sem],by simp [go_sem],by simp [go_sem],((Kp.refl w).alloc _).alloc _⟩
 go_enter Tryz.func11,Tryz.ntmps11
 go_wp2_with fail
 refine(szBoard_any _ _ _ _ _ _ l m _ _ _ _ _ _ _ _ _ _ lt lr ld _ _ (HR.out.keep s0.2.2.2.2.2.2.2.2.2.2.2.2.2.2.2) (by omega) (by omega)).mono ?_
 rintro e1 w1 ⟨r1,rfl,u1,u2,u3,k1⟩
 have s1:=keep15k k1 s0
 have U3:=Lib.hid u3
 clear s0 k1 u3
 by_cases hneg:r1<0
 ·go_wp2_with fail
  go_ret
  exact⟨rfl,s1.2.2.2.2.2.2.2.2.2.2.2.2.2.2.2⟩
 have SM:=Lib.hid (U3.out (by omega))
 have RA:=Lib.hid (HR.out.at SM.out)
 clear U3
 go_wp2_with fail
 refine(szState_any _ _ _ us _ _ (HU.out.keep s1.2.2.2.2.2.2.2.2.2.2.2.2.2.2.2) (by omega) u1).mono ?_
 rintro e2 w2 ⟨r2,rfl,v1,v2,v3,k2⟩
 have s2:=keep15k k2 s1
 have V3:=Lib.hid v3
 clear s1 k2 v3
 by_cases hneg2:r2<0
 ·go_wp2_with fail
  go_ret
  exact⟨rfl,s2.2.2.2.2.2.2.2.2.2.2.2.2.2.2.2⟩
 have SU:=Lib.hid (V3.out (by omega))
 have LA:=Lib.hid (HU.out.at SU.out)
 have hmu:mu≤1048576:=by rw [← HE4.out];exact SU.out
 clear V3
 go_upto_region 10 with (fail)
 have s2d:=drew15k s2
 have hn6:nL≤1048576:=Nat.le_trans HLe.out hmu
 go_cut [10,11] (fun s10 s11 wx=>∃ (B0:Nat) (A0:Option Addr) (c0:Nat),s10=.pointer (some ⟨B0,0,none⟩)∧s11=.bool B∧LivS wx B0 (.int .i64 X) (.int .i64 Y) (.slice A0 nL c0)∧StaAt wx (.slice A0 nL c0) LL∧cb12 wx (w.heap.size) (.slice At nt ct) (.slice Ak nk ck) (.int .i64 a) (.int .i64 b) (.int .i64 c) (.int .i64 d) (.int .i64 e) (.int .i64 W) (.int .i64 H) (x) (r) (y) (cb3 wx (w.heap.size+1) (.int .i64 T) (.int .i64 Z) (u) (Kp w wx)))
 case first =>
  refine wp_region_held_drew (S:=(fun w'=>cb12 w' (w.heap.size) (.slice At nt ct) (.slice Ak nk ck) (.int .i64 a) (.int .i64 b) (.int .i64 c) (.int .i64 d) (.int .i64 e) (.int .i64 W) (.int .i64 H) (x) (r) (y) (cb3 w' (w.heap.size+1) (.int .i64 T) (.int .i64 Z) (u) (Kp w w')))) (by kernel_rfl) ?_ (fun hHeld=>?_)
  ·assumption
  generalize w2.drew=V at *
  refine tk 0 ⟨some 36,_,_,_,_,_⟩ ?_ rfl (by kernel_rfl) (fun _ _ _ h=>h) (by rfl) ?_ (by assumption) ?_
  rotate_left
  ·intro w hSw;(try dsimp only at hSw);go_simp;(all_goals with_reducible rfl)
  simp only [Act.put,sA,sB,sC]
  refine tk 2 ⟨some 38,_,_,_,_,_⟩ ?_ rfl (by kernel_rfl) (fun _ _ _ h=>h) (by rfl) ?_ (by assumption) ?_
  rotate_left
  ·intro w hSw;(try dsimp only at hSw);go_simp;(all_goals with_reducible rfl)
  simp only [Act.put,sA,sB,sC]
  refine tk 4 ⟨some 40,_,_,_,_,_⟩ ?_ rfl (by kernel_rfl) (fun _ _ _ h=>h) (by rfl) ?_ (by assumption) ?_
  rotate_left
  ·intro w hSw;(try dsimp only at hSw);go_simp;(all_goals with_reducible rfl)
  simp only [Act.put,sA,sB,sC]
  refine tk 5 ⟨some 41,_,_,_,_,_⟩ ?_ rfl (by kernel_rfl) (fun _ _ _ h=>h) (by rfl) ?_ (by assumption) ?_
  rotate_left
  ·intro w hSw;(try dsimp only at hSw);go_simp;(all_goals with_reducible rfl)
  simp only [Act.put,sA,sB,sC]
  refine wpAnyH_ready (rs:=[1,11]) (by kernel_rfl) (by simp) ?_
  refine(AllReadyH.cons (o:=⟨some 37,_,_,_,_,_⟩) rfl (fun K hK=>?_) (AllReadyH.cons (o:=⟨some 10,_,_,_,_,_⟩) rfl (fun K hK=>?_) AllReadyH.nil))
  ·go_simp
   refine(toBoard_any _ _ _ _ _ _ l m _ _ _ _ _ _ _ _ _ _ lt lr ld mt mr md _ (RA.out.keep hHeld.2.2.2.2.2.2.2.2.2.2.2.2.2.2.2) HE1.out HE2.out HE3.out).mono ?_
   rintro e3 w3 ⟨g1a,g2a,csa,ysa,zsa,A1a,c1a,A2a,c2a,A3a,c3a,rfl,o3,k3⟩
   have hS3:=keep15k k3 hHeld
   have R3:=Lib.hid (o3.at RA.out)
   try (have L10:=livS_keep k3 L10)
   go_wp2_with fail
   refine hK.out _ _ ?_ (fun hHeld=>?_)
   ·(try dsimp only);(assumption)
   clear hK K
   try simp only [Act.put,sA,sB,sC]
   refine wpAnyH_ready (rs:=[3,11]) (by kernel_rfl) (by simp) ?_
   refine(AllReadyH.cons (o:=⟨some 39,_,_,_,_,_⟩) rfl (fun K hK=>?_) (AllReadyH.cons (o:=⟨some 10,_,_,_,_,_⟩) rfl (fun K hK=>?_) AllReadyH.nil))
   ·go_simp
    refine(toState_any T Z _ us mu _ (LA.out.keep hHeld.2.2.2.2.2.2.2.2.2.2.2.2.2.2.2) HE4.out).mono ?_
    rintro e3' w3' ⟨gua,rfl,o3',k3'⟩
    have hS3':=keep15k k3' hHeld
    have B3:=Lib.hid (R3.out.keep k3')
    have S3:=Lib.hid (o3'.sta LA.out)
    try (have L10:=livS_keep k3' L10)
    go_wp2_with fail
    refine hK.out _ _ ?_ (fun hHeld=>?_)
    ·(try dsimp only);(assumption)
    clear hK K
    try simp only [Act.put,sA,sB,sC]
    refine wpAnyH_ready (rs:=[6,11]) (by kernel_rfl) (by simp) ?_
    refine(AllReadyH.cons (o:=⟨some 42,_,_,_,_,_⟩) rfl (fun K hK=>?_) (AllReadyH.cons (o:=⟨some 10,_,_,_,_,_⟩) rfl (fun K hK=>?_) AllReadyH.nil))
    ·go_simp
     refine(CT.out _ _ (HP.out.keep hHeld.2.2.2.2.2.2.2.2.2.2.2.2.2.2.2)).mono ?_
     rintro e31 w31 ⟨x31,rfl,o31,k31⟩
     have hS31:=keep15k k31 hHeld
     have R31:=Lib.hid o31.rd
     have B3:=Lib.hid (B3.out.keep k31)
     have S3:=Lib.hid (S3.out.keep k31)
     try (have L10:=livS_keep k31 L10)
     go_wp2_with fail
     refine hK.out _ _ ?_ (fun hHeld=>?_)
     ·(try dsimp only);(assumption)
     clear hK K
     try simp only [Act.put,sA,sB,sC]
     refine wpAnyH_ready (rs:=[7,11]) (by kernel_rfl) (by simp) ?_
     refine(AllReadyH.cons (o:=⟨some 43,_,_,_,_,_⟩) rfl (fun K hK=>?_) (AllReadyH.cons (o:=⟨some 10,_,_,_,_,_⟩) rfl (fun K hK=>?_) AllReadyH.nil))
     ·go_simp
      try (have hzB:=cell_lt L10.1.1)
      refine(CS.out _ _ _ _ _ _ _ _ _ _ _ _ B3.out S3.out R31.out).mono ?_
      rintro e4 w4 ⟨A0,c0,rfl,o4,k4⟩
      have hS4:=keep15k k4 hHeld
      have W3:=Lib.hid o4
      have W3o:=Lib.hid o4
      try (have NB:=Lib.hid (o4.not hzB))
      try (have L10:=livS_keep k4 L10)
      go_wp2_with fail
      refine hK.out _ _ ?_ (fun hHeld=>?_)
      ·(try dsimp only);(assumption)
      clear hK K
      try simp only [Act.put,sA,sB,sC]
      refine tk 8 ⟨some 35,_,_,_,_,_⟩ ?_ rfl (by kernel_rfl) (fun _ _ _ h=>h) (by rfl) ?_ (by assumption) ?_
      rotate_left
      ·intro w hSw;(try dsimp only at hSw);go_simp;(all_goals with_reducible rfl)
      simp only [Act.put,sA,sB,sC]
      refine tk 9 ⟨some 44,_,_,_,_,_⟩ ?_ rfl (by kernel_rfl) (fun _ _ _ h=>h) (by rfl) ?_ (by assumption) ?_
      rotate_left
      ·intro w hSw;(try dsimp only at hSw);go_simp;(all_goals with_reducible rfl)
      simp only [Act.put,sA,sB,sC]
      refine tk 10 ⟨some 45,_,_,_,_,_⟩ ?_ rfl (by kernel_rfl) (fun _ _ _ h=>h) (by rfl) ?_ (by assumption) ?_
      rotate_left
      ·intro w hSw;(try dsimp only at hSw);go_simp;(all_goals with_reducible rfl)
      simp only [Act.put,sA,sB,sC]
      refine wpAnyH_ready (rs:=[11]) (by kernel_rfl) (by simp) ?_
      refine(AllReadyH.cons (o:=⟨some 10,_,_,_,_,_⟩) rfl (fun K hK=>?_) AllReadyH.nil)
      go_simp
      go_wp2_with fail
      have nz:=liv_new hHeld
      have L10:=nz.1
      have hSa:=keep15k nz.2 hHeld
      have hn0:=Nat.ne_of_gt (cell_lt hHeld.1)
      have hn1:=Nat.ne_of_gt (cell_lt hHeld.2.2.2.2.2.2.2.2.2.2.2.2.1)
      have hn2:=hHeld.2.2.2.2.2.2.2.2.2.2.2.2.2.2.2.size
      try (have R3:=Lib.hid (R3.out.keep nz.2))
      try (have B3:=Lib.hid (B3.out.keep nz.2))
      try (have S3:=Lib.hid (S3.out.keep nz.2))
      try (have R31:=Lib.hid (R31.out.keep nz.2))
      try (have W3:=Lib.hid (W3.out.keep nz.2))
      refine hK.out _ _ ?_ (fun hHeld=>?_)
      ·(try dsimp only);(assumption)
      clear hK K
      try simp only [Act.put,sA,sB,sC]
      refine wpAnyH_ready (rs:=[12]) (by kernel_rfl) (by simp) ?_
      refine(AllReadyH.cons (o:=⟨none,_,_,_,_,_⟩) rfl (fun K hK=>?_) AllReadyH.nil)
      go_simp
      go_wp2_with fail
      refine hK.out _ _ ?_ (fun hHeld=>?_)
      ·(try dsimp only);(first | exact keep15k ((Kp.refl _).alloc _) hS4 | exact⟨by simp [go_sem, *],by simp [go_sem, *],by simp [go_sem, *],by simp [go_sem, *],by simp [go_sem, *],by simp [go_sem, *],by simp [go_sem, *],by simp [go_sem, *],by simp [go_sem, *],by simp [go_sem, *],by simp [go_sem, *],by simp [go_sem, *],by simp [go_sem, *],by simp [go_sem, *],by simp [go_sem, *],((hHeld.2.2.2.2.2.2.2.2.2.2.2.2.2.2.2.setCell (by first | omega | (simp;omega)) _).setCell (by first | omega | (simp;omega)) _).setCell (by first | omega | (simp;omega)) _⟩)
      clear hK K
      try simp only [Act.put,sA,sB,sC]
      refine tk 13 ⟨some 11,_,_,_,_,_⟩ ?_ rfl (by kernel_rfl) (fun _ _ _ h=>h) (by rfl) ?_ (by assumption) ?_
      rotate_left
      ·intro w hSw;(try dsimp only at hSw);go_simp;(all_goals with_reducible rfl)
      simp only [Act.put,sA,sB,sC]
      refine wpAnyH_done (by kernel_rfl) ?_ _
      go_wp2_with fail
      go_meet
      exact⟨_,A0,c0,rfl,rfl,⟨by first | (simp [go_sem];done) | simp [go_sem, *],by first | (simp [go_sem];done) | simp [go_sem, *],by first | (simp [go_sem];done) | simp [go_sem, *]⟩,StaAt.mk (by first | exact(W3o.out.keep ((Kp.refl _).alloc _)).rd | exact(((W3.out.far NB.out _).far NB.out _).far NB.out _).rd) (by rw [HNL.out];exact hn6) HIL.out,hHeld⟩
     ·go_simp
      go_wp2_with fail
      have nz:=liv_new hHeld
      have L10:=nz.1
      have hSa:=keep15k nz.2 hHeld
      have hn0:=Nat.ne_of_gt (cell_lt hHeld.1)
      have hn1:=Nat.ne_of_gt (cell_lt hHeld.2.2.2.2.2.2.2.2.2.2.2.2.1)
      have hn2:=hHeld.2.2.2.2.2.2.2.2.2.2.2.2.2.2.2.size
      try (have R3:=Lib.hid (R3.out.keep nz.2))
      try (have B3:=Lib.hid (B3.out.keep nz.2))
      try (have S3:=Lib.hid (S3.out.keep nz.2))
      try (have R31:=Lib.hid (R31.out.keep nz.2))
      try (have W3:=Lib.hid (W3.out.keep nz.2))
      refine hK.out _ _ ?_ (fun hHeld=>?_)
      ·(try dsimp only);(assumption)
      clear hK K
      try simp only [Act.put,sA,sB,sC]
      refine wpAnyH_ready (rs:=[7]) (by kernel_rfl) (by simp) ?_
      refine(AllReadyH.cons (o:=⟨some 43,_,_,_,_,_⟩) rfl (fun K hK=>?_) AllReadyH.nil)
      go_simp
      try (have hzB:=cell_lt L10.1.1)
      refine(CS.out _ _ _ _ _ _ _ _ _ _ _ _ B3.out S3.out R31.out).mono ?_
      rintro e4 w4 ⟨A0,c0,rfl,o4,k4⟩
      have hS4:=keep15k k4 hHeld
      have W3:=Lib.hid o4
      have W3o:=Lib.hid o4
      try (have NB:=Lib.hid (o4.not hzB))
      try (have L10:=livS_keep k4 L10)
      go_wp2_with fail
      refine hK.out _ _ ?_ (fun hHeld=>?_)
      ·(try dsimp only);(assumption)
      clear hK K
      try simp only [Act.put,sA,sB,sC]
      refine tk 8 ⟨some 35,_,_,_,_,_⟩ ?_ rfl (by kernel_rfl) (fun _ _ _ h=>h) (by rfl) ?_ (by assumption) ?_
      rotate_left
      ·intro w hSw;(try dsimp only at hSw);go_simp;(all_goals with_reducible rfl)
      simp only [Act.put,sA,sB,sC]
      refine tk 9 ⟨some 44,_,_,_,_,_⟩ ?_ rfl (by kernel_rfl) (fun _ _ _ h=>h) (by rfl) ?_ (by assumption) ?_
      rotate_left
      ·intro w hSw;(try dsimp only at hSw);go_simp;(all_goals with_reducible rfl)
      simp only [Act.put,sA,sB,sC]
      refine tk 10 ⟨some 45,_,_,_,_,_⟩ ?_ rfl (by kernel_rfl) (fun _ _ _ h=>h) (by rfl) ?_ (by assumption) ?_
      rotate_left
      ·intro w hSw;(try dsimp only at hSw);go_simp;(all_goals with_reducible rfl)
      simp only [Act.put,sA,sB,sC]
      refine wpAnyH_ready (rs:=[12]) (by kernel_rfl) (by simp) ?_
      refine(AllReadyH.cons (o:=⟨none,_,_,_,_,_⟩) rfl (fun K hK=>?_) AllReadyH.nil)
      go_simp
      go_wp2_with fail
      refine hK.out _ _ ?_ (fun hHeld=>?_)
      ·(try dsimp only);(first | exact keep15k ((Kp.refl _).alloc _) hS4 | exact⟨by simp [go_sem, *],by simp [go_sem, *],by simp [go_sem, *],by simp [go_sem, *],by simp [go_sem, *],by simp [go_sem, *],by simp [go_sem, *],by simp [go_sem, *],by simp [go_sem, *],by simp [go_sem, *],by simp [go_sem, *],by simp [go_sem, *],by simp [go_sem, *],by simp [go_sem, *],by simp [go_sem, *],((hHeld.2.2.2.2.2.2.2.2.2.2.2.2.2.2.2.setCell (by first | omega | (simp;omega)) _).setCell (by first | omega | (simp;omega)) _).setCell (by first | omega | (simp;omega)) _⟩)
      clear hK K
      try simp only [Act.put,sA,sB,sC]
      refine tk 13 ⟨some 11,_,_,_,_,_⟩ ?_ rfl (by kernel_rfl) (fun _ _ _ h=>h) (by rfl) ?_ (by assumption) ?_
      rotate_left
      ·intro w hSw;(try dsimp only at hSw);go_simp;(all_goals with_reducible rfl)
      simp only [Act.put,sA,sB,sC]
      refine wpAnyH_done (by kernel_rfl) ?_ _
      go_wp2_with fail
      go_meet
      exact⟨_,A0,c0,rfl,rfl,⟨by first | (simp [go_sem];done) | simp [go_sem, *],by first | (simp [go_sem];done) | simp [go_sem, *],by first | (simp [go_sem];done) | simp [go_sem, *]⟩,StaAt.mk (by first | exact(W3o.out.keep ((Kp.refl _).alloc _)).rd | exact(((W3.out.far NB.out _).far NB.out _).far NB.out _).rd) (by rw [HNL.out];exact hn6) HIL.out,hHeld⟩
    ·go_simp
     go_wp2_with fail
     have nz:=liv_new hHeld
     have L10:=nz.1
     have hSa:=keep15k nz.2 hHeld
     have hn0:=Nat.ne_of_gt (cell_lt hHeld.1)
     have hn1:=Nat.ne_of_gt (cell_lt hHeld.2.2.2.2.2.2.2.2.2.2.2.2.1)
     have hn2:=hHeld.2.2.2.2.2.2.2.2.2.2.2.2.2.2.2.size
     try (have R3:=Lib.hid (R3.out.keep nz.2))
     try (have B3:=Lib.hid (B3.out.keep nz.2))
     try (have S3:=Lib.hid (S3.out.keep nz.2))
     try (have R31:=Lib.hid (R31.out.keep nz.2))
     try (have W3:=Lib.hid (W3.out.keep nz.2))
     refine hK.out _ _ ?_ (fun hHeld=>?_)
     ·(try dsimp only);(assumption)
     clear hK K
     try simp only [Act.put,sA,sB,sC]
     refine wpAnyH_ready (rs:=[6]) (by kernel_rfl) (by simp) ?_
     refine(AllReadyH.cons (o:=⟨some 42,_,_,_,_,_⟩) rfl (fun K hK=>?_) AllReadyH.nil)
     go_simp
     refine(CT.out _ _ (HP.out.keep hHeld.2.2.2.2.2.2.2.2.2.2.2.2.2.2.2)).mono ?_
     rintro e31 w31 ⟨x31,rfl,o31,k31⟩
     have hS31:=keep15k k31 hHeld
     have R31:=Lib.hid o31.rd
     have B3:=Lib.hid (B3.out.keep k31)
     have S3:=Lib.hid (S3.out.keep k31)
     try (have L10:=livS_keep k31 L10)
     go_wp2_with fail
     refine hK.out _ _ ?_ (fun hHeld=>?_)
     ·(try dsimp only);(assumption)
     clear hK K
     try simp only [Act.put,sA,sB,sC]
     refine wpAnyH_ready (rs:=[7]) (by kernel_rfl) (by simp) ?_
     refine(AllReadyH.cons (o:=⟨some 43,_,_,_,_,_⟩) rfl (fun K hK=>?_) AllReadyH.nil)
     go_simp
     try (have hzB:=cell_lt L10.1.1)
     refine(CS.out _ _ _ _ _ _ _ _ _ _ _ _ B3.out S3.out R31.out).mono ?_
     rintro e4 w4 ⟨A0,c0,rfl,o4,k4⟩
     have hS4:=keep15k k4 hHeld
     have W3:=Lib.hid o4
     have W3o:=Lib.hid o4
     try (have NB:=Lib.hid (o4.not hzB))
     try (have L10:=livS_keep k4 L10)
     go_wp2_with fail
     refine hK.out _ _ ?_ (fun hHeld=>?_)
     ·(try dsimp only);(assumption)
     clear hK K
     try simp only [Act.put,sA,sB,sC]
     refine tk 8 ⟨some 35,_,_,_,_,_⟩ ?_ rfl (by kernel_rfl) (fun _ _ _ h=>h) (by rfl) ?_ (by assumption) ?_
     rotate_left
     ·intro w hSw;(try dsimp only at hSw);go_simp;(all_goals with_reducible rfl)
     simp only [Act.put,sA,sB,sC]
     refine tk 9 ⟨some 44,_,_,_,_,_⟩ ?_ rfl (by kernel_rfl) (fun _ _ _ h=>h) (by rfl) ?_ (by assumption) ?_
     rotate_left
     ·intro w hSw;(try dsimp only at hSw);go_simp;(all_goals with_reducible rfl)
     simp only [Act.put,sA,sB,sC]
     refine tk 10 ⟨some 45,_,_,_,_,_⟩ ?_ rfl (by kernel_rfl) (fun _ _ _ h=>h) (by rfl) ?_ (by assumption) ?_
     rotate_left
     ·intro w hSw;(try dsimp only at hSw);go_simp;(all_goals with_reducible rfl)
     simp only [Act.put,sA,sB,sC]
     refine wpAnyH_ready (rs:=[12]) (by kernel_rfl) (by simp) ?_
     refine(AllReadyH.cons (o:=⟨none,_,_,_,_,_⟩) rfl (fun K hK=>?_) AllReadyH.nil)
     go_simp
     go_wp2_with fail
     refine hK.out _ _ ?_ (fun hHeld=>?_)
     ·(try dsimp only);(first | exact keep15k ((Kp.refl _).alloc _) hS4 | exact⟨by simp [go_sem, *],by simp [go_sem, *],by simp [go_sem, *],by simp [go_sem, *],by simp [go_sem, *],by simp [go_sem, *],by simp [go_sem, *],by simp [go_sem, *],by simp [go_sem, *],by simp [go_sem, *],by simp [go_sem, *],by simp [go_sem, *],by simp [go_sem, *],by simp [go_sem, *],by simp [go_sem, *],((hHeld.2.2.2.2.2.2.2.2.2.2.2.2.2.2.2.setCell (by first | omega | (simp;omega)) _).setCell (by first | omega | (simp;omega)) _).setCell (by first | omega | (simp;omega)) _⟩)
     clear hK K
     try simp only [Act.put,sA,sB,sC]
     refine tk 13 ⟨some 11,_,_,_,_,_⟩ ?_ rfl (by kernel_rfl) (fun _ _ _ h=>h) (by rfl) ?_ (by assumption) ?_
     rotate_left
     ·intro w hSw;(try dsimp only at hSw);go_simp;(all_goals with_reducible rfl)
     simp only [Act.put,sA,sB,sC]
     refine wpAnyH_done (by kernel_rfl) ?_ _
     go_wp2_with fail
     go_meet
     exact⟨_,A0,c0,rfl,rfl,⟨by first | (simp [go_sem];done) | simp [go_sem, *],by first | (simp [go_sem];done) | simp [go_sem, *],by first | (simp [go_sem];done) | simp [go_sem, *]⟩,StaAt.mk (by first | exact(W3o.out.keep ((Kp.refl _).alloc _)).rd | exact(((W3.out.far NB.out _).far NB.out _).far NB.out _).rd) (by rw [HNL.out];exact hn6) HIL.out,hHeld⟩
   ·go_simp
    go_wp2_with fail
    have nz:=liv_new hHeld
    have L10:=nz.1
    have hSa:=keep15k nz.2 hHeld
    have hn0:=Nat.ne_of_gt (cell_lt hHeld.1)
    have hn1:=Nat.ne_of_gt (cell_lt hHeld.2.2.2.2.2.2.2.2.2.2.2.2.1)
    have hn2:=hHeld.2.2.2.2.2.2.2.2.2.2.2.2.2.2.2.size
    try (have R3:=Lib.hid (R3.out.keep nz.2))
    try (have B3:=Lib.hid (B3.out.keep nz.2))
    try (have S3:=Lib.hid (S3.out.keep nz.2))
    try (have R31:=Lib.hid (R31.out.keep nz.2))
    try (have W3:=Lib.hid (W3.out.keep nz.2))
    refine hK.out _ _ ?_ (fun hHeld=>?_)
    ·(try dsimp only);(assumption)
    clear hK K
    try simp only [Act.put,sA,sB,sC]
    refine wpAnyH_ready (rs:=[3]) (by kernel_rfl) (by simp) ?_
    refine(AllReadyH.cons (o:=⟨some 39,_,_,_,_,_⟩) rfl (fun K hK=>?_) AllReadyH.nil)
    go_simp
    refine(toState_any T Z _ us mu _ (LA.out.keep hHeld.2.2.2.2.2.2.2.2.2.2.2.2.2.2.2) HE4.out).mono ?_
    rintro e3' w3' ⟨gua,rfl,o3',k3'⟩
    have hS3':=keep15k k3' hHeld
    have B3:=Lib.hid (R3.out.keep k3')
    have S3:=Lib.hid (o3'.sta LA.out)
    try (have L10:=livS_keep k3' L10)
    go_wp2_with fail
    refine hK.out _ _ ?_ (fun hHeld=>?_)
    ·(try dsimp only);(assumption)
    clear hK K
    try simp only [Act.put,sA,sB,sC]
    refine wpAnyH_ready (rs:=[6]) (by kernel_rfl) (by simp) ?_
    refine(AllReadyH.cons (o:=⟨some 42,_,_,_,_,_⟩) rfl (fun K hK=>?_) AllReadyH.nil)
    go_simp
    refine(CT.out _ _ (HP.out.keep hHeld.2.2.2.2.2.2.2.2.2.2.2.2.2.2.2)).mono ?_
    rintro e31 w31 ⟨x31,rfl,o31,k31⟩
    have hS31:=keep15k k31 hHeld
    have R31:=Lib.hid o31.rd
    have B3:=Lib.hid (B3.out.keep k31)
    have S3:=Lib.hid (S3.out.keep k31)
    try (have L10:=livS_keep k31 L10)
    go_wp2_with fail
    refine hK.out _ _ ?_ (fun hHeld=>?_)
    ·(try dsimp only);(assumption)
    clear hK K
    try simp only [Act.put,sA,sB,sC]
    refine wpAnyH_ready (rs:=[7]) (by kernel_rfl) (by simp) ?_
    refine(AllReadyH.cons (o:=⟨some 43,_,_,_,_,_⟩) rfl (fun K hK=>?_) AllReadyH.nil)
    go_simp
    try (have hzB:=cell_lt L10.1.1)
    refine(CS.out _ _ _ _ _ _ _ _ _ _ _ _ B3.out S3.out R31.out).mono ?_
    rintro e4 w4 ⟨A0,c0,rfl,o4,k4⟩
    have hS4:=keep15k k4 hHeld
    have W3:=Lib.hid o4
    have W3o:=Lib.hid o4
    try (have NB:=Lib.hid (o4.not hzB))
    try (have L10:=livS_keep k4 L10)
    go_wp2_with fail
    refine hK.out _ _ ?_ (fun hHeld=>?_)
    ·(try dsimp only);(assumption)
    clear hK K
    try simp only [Act.put,sA,sB,sC]
    refine tk 8 ⟨some 35,_,_,_,_,_⟩ ?_ rfl (by kernel_rfl) (fun _ _ _ h=>h) (by rfl) ?_ (by assumption) ?_
    rotate_left
    ·intro w hSw;(try dsimp only at hSw);go_simp;(all_goals with_reducible rfl)
    simp only [Act.put,sA,sB,sC]
    refine tk 9 ⟨some 44,_,_,_,_,_⟩ ?_ rfl (by kernel_rfl) (fun _ _ _ h=>h) (by rfl) ?_ (by assumption) ?_
    rotate_left
    ·intro w hSw;(try dsimp only at hSw);go_simp;(all_goals with_reducible rfl)
    simp only [Act.put,sA,sB,sC]
    refine tk 10 ⟨some 45,_,_,_,_,_⟩ ?_ rfl (by kernel_rfl) (fun _ _ _ h=>h) (by rfl) ?_ (by assumption) ?_
    rotate_left
    ·intro w hSw;(try dsimp only at hSw);go_simp;(all_goals with_reducible rfl)
    simp only [Act.put,sA,sB,sC]
    refine wpAnyH_ready (rs:=[12]) (by kernel_rfl) (by simp) ?_
    refine(AllReadyH.cons (o:=⟨none,_,_,_,_,_⟩) rfl (fun K hK=>?_) AllReadyH.nil)
    go_simp
    go_wp2_with fail
    refine hK.out _ _ ?_ (fun hHeld=>?_)
    ·(try dsimp only);(first | exact keep15k ((Kp.refl _).alloc _) hS4 | exact⟨by simp [go_sem, *],by simp [go_sem, *],by simp [go_sem, *],by simp [go_sem, *],by simp [go_sem, *],by simp [go_sem, *],by simp [go_sem, *],by simp [go_sem, *],by simp [go_sem, *],by simp [go_sem, *],by simp [go_sem, *],by simp [go_sem, *],by simp [go_sem, *],by simp [go_sem, *],by simp [go_sem, *],((hHeld.2.2.2.2.2.2.2.2.2.2.2.2.2.2.2.setCell (by first | omega | (simp;omega)) _).setCell (by first | omega | (simp;omega)) _).setCell (by first | omega | (simp;omega)) _⟩)
    clear hK K
    try simp only [Act.put,sA,sB,sC]
    refine tk 13 ⟨some 11,_,_,_,_,_⟩ ?_ rfl (by kernel_rfl) (fun _ _ _ h=>h) (by rfl) ?_ (by assumption) ?_
    rotate_left
    ·intro w hSw;(try dsimp only at hSw);go_simp;(all_goals with_reducible rfl)
    simp only [Act.put,sA,sB,sC]
    refine wpAnyH_done (by kernel_rfl) ?_ _
    go_wp2_with fail
    go_meet
    exact⟨_,A0,c0,rfl,rfl,⟨by first | (simp [go_sem];done) | simp [go_sem, *],by first | (simp [go_sem];done) | simp [go_sem, *],by first | (simp [go_sem];done) | simp [go_sem, *]⟩,StaAt.mk (by first | exact(W3o.out.keep ((Kp.refl _).alloc _)).rd | exact(((W3.out.far NB.out _).far NB.out _).far NB.out _).rd) (by rw [HNL.out];exact hn6) HIL.out,hHeld⟩
  ·go_simp
   go_wp2_with fail
   have nz:=liv_new hHeld
   have L10:=nz.1
   have hSa:=keep15k nz.2 hHeld
   have hn0:=Nat.ne_of_gt (cell_lt hHeld.1)
   have hn1:=Nat.ne_of_gt (cell_lt hHeld.2.2.2.2.2.2.2.2.2.2.2.2.1)
   have hn2:=hHeld.2.2.2.2.2.2.2.2.2.2.2.2.2.2.2.size
   try (have R3:=Lib.hid (R3.out.keep nz.2))
   try (have B3:=Lib.hid (B3.out.keep nz.2))
   try (have S3:=Lib.hid (S3.out.keep nz.2))
   try (have R31:=Lib.hid (R31.out.keep nz.2))
   try (have W3:=Lib.hid (W3.out.keep nz.2))
   refine hK.out _ _ ?_ (fun hHeld=>?_)
   ·(try dsimp only);(assumption)
   clear hK K
   try simp only [Act.put,sA,sB,sC]
   refine wpAnyH_ready (rs:=[1]) (by kernel_rfl) (by simp) ?_
   refine(AllReadyH.cons (o:=⟨some 37,_,_,_,_,_⟩) rfl (fun K hK=>?_) AllReadyH.nil)
   go_simp
   refine(toBoard_any _ _ _ _ _ _ l m _ _ _ _ _ _ _ _ _ _ lt lr ld mt mr md _ (RA.out.keep hHeld.2.2.2.2.2.2.2.2.2.2.2.2.2.2.2) HE1.out HE2.out HE3.out).mono ?_
   rintro e3 w3 ⟨g1a,g2a,csa,ysa,zsa,A1a,c1a,A2a,c2a,A3a,c3a,rfl,o3,k3⟩
   have hS3:=keep15k k3 hHeld
   have R3:=Lib.hid (o3.at RA.out)
   try (have L10:=livS_keep k3 L10)
   go_wp2_with fail
   refine hK.out _ _ ?_ (fun hHeld=>?_)
   ·(try dsimp only);(assumption)
   clear hK K
   try simp only [Act.put,sA,sB,sC]
   refine wpAnyH_ready (rs:=[3]) (by kernel_rfl) (by simp) ?_
   refine(AllReadyH.cons (o:=⟨some 39,_,_,_,_,_⟩) rfl (fun K hK=>?_) AllReadyH.nil)
   go_simp
   refine(toState_any T Z _ us mu _ (LA.out.keep hHeld.2.2.2.2.2.2.2.2.2.2.2.2.2.2.2) HE4.out).mono ?_
   rintro e3' w3' ⟨gua,rfl,o3',k3'⟩
   have hS3':=keep15k k3' hHeld
   have B3:=Lib.hid (R3.out.keep k3')
   have S3:=Lib.hid (o3'.sta LA.out)
   try (have L10:=livS_keep k3' L10)
   go_wp2_with fail
   refine hK.out _ _ ?_ (fun hHeld=>?_)
   ·(try dsimp only);(assumption)
   clear hK K
   try simp only [Act.put,sA,sB,sC]
   refine wpAnyH_ready (rs:=[6]) (by kernel_rfl) (by simp) ?_
   refine(AllReadyH.cons (o:=⟨some 42,_,_,_,_,_⟩) rfl (fun K hK=>?_) AllReadyH.nil)
   go_simp
   refine(CT.out _ _ (HP.out.keep hHeld.2.2.2.2.2.2.2.2.2.2.2.2.2.2.2)).mono ?_
   rintro e31 w31 ⟨x31,rfl,o31,k31⟩
   have hS31:=keep15k k31 hHeld
   have R31:=Lib.hid o31.rd
   have B3:=Lib.hid (B3.out.keep k31)
   have S3:=Lib.hid (S3.out.keep k31)
   try (have L10:=livS_keep k31 L10)
   go_wp2_with fail
   refine hK.out _ _ ?_ (fun hHeld=>?_)
   ·(try dsimp only);(assumption)
   clear hK K
   try simp only [Act.put,sA,sB,sC]
   refine wpAnyH_ready (rs:=[7]) (by kernel_rfl) (by simp) ?_
   refine(AllReadyH.cons (o:=⟨some 43,_,_,_,_,_⟩) rfl (fun K hK=>?_) AllReadyH.nil)
   go_simp
   try (have hzB:=cell_lt L10.1.1)
   refine(CS.out _ _ _ _ _ _ _ _ _ _ _ _ B3.out S3.out R31.out).mono ?_
   rintro e4 w4 ⟨A0,c0,rfl,o4,k4⟩
   have hS4:=keep15k k4 hHeld
   have W3:=Lib.hid o4
   have W3o:=Lib.hid o4
   try (have NB:=Lib.hid (o4.not hzB))
   try (have L10:=livS_keep k4 L10)
   go_wp2_with fail
   refine hK.out _ _ ?_ (fun hHeld=>?_)
   ·(try dsimp only);(assumption)
   clear hK K
   try simp only [Act.put,sA,sB,sC]
   refine tk 8 ⟨some 35,_,_,_,_,_⟩ ?_ rfl (by kernel_rfl) (fun _ _ _ h=>h) (by rfl) ?_ (by assumption) ?_
   rotate_left
   ·intro w hSw;(try dsimp only at hSw);go_simp;(all_goals with_reducible rfl)
   simp only [Act.put,sA,sB,sC]
   refine tk 9 ⟨some 44,_,_,_,_,_⟩ ?_ rfl (by kernel_rfl) (fun _ _ _ h=>h) (by rfl) ?_ (by assumption) ?_
   rotate_left
   ·intro w hSw;(try dsimp only at hSw);go_simp;(all_goals with_reducible rfl)
   simp only [Act.put,sA,sB,sC]
   refine tk 10 ⟨some 45,_,_,_,_,_⟩ ?_ rfl (by kernel_rfl) (fun _ _ _ h=>h) (by rfl) ?_ (by assumption) ?_
   rotate_left
   ·intro w hSw;(try dsimp only at hSw);go_simp;(all_goals with_reducible rfl)
   simp only [Act.put,sA,sB,sC]
   refine wpAnyH_ready (rs:=[12]) (by kernel_rfl) (by simp) ?_
   refine(AllReadyH.cons (o:=⟨none,_,_,_,_,_⟩) rfl (fun K hK=>?_) AllReadyH.nil)
   go_simp
   go_wp2_with fail
   refine hK.out _ _ ?_ (fun hHeld=>?_)
   ·(try dsimp only);(first | exact keep15k ((Kp.refl _).alloc _) hS4 | exact⟨by simp [go_sem, *],by simp [go_sem, *],by simp [go_sem, *],by simp [go_sem, *],by simp [go_sem, *],by simp [go_sem, *],by simp [go_sem, *],by simp [go_sem, *],by simp [go_sem, *],by simp [go_sem, *],by simp [go_sem, *],by simp [go_sem, *],by simp [go_sem, *],by simp [go_sem, *],by simp [go_sem, *],((hHeld.2.2.2.2.2.2.2.2.2.2.2.2.2.2.2.setCell (by first | omega | (simp;omega)) _).setCell (by first | omega | (simp;omega)) _).setCell (by first | omega | (simp;omega)) _⟩)
   clear hK K
   try simp only [Act.put,sA,sB,sC]
   refine tk 13 ⟨some 11,_,_,_,_,_⟩ ?_ rfl (by kernel_rfl) (fun _ _ _ h=>h) (by rfl) ?_ (by assumption) ?_
   rotate_left
   ·intro w hSw;(try dsimp only at hSw);go_simp;(all_goals with_reducible rfl)
   simp only [Act.put,sA,sB,sC]
   refine wpAnyH_done (by kernel_rfl) ?_ _
   go_wp2_with fail
   go_meet
   exact⟨_,A0,c0,rfl,rfl,⟨by first | (simp [go_sem];done) | simp [go_sem, *],by first | (simp [go_sem];done) | simp [go_sem, *],by first | (simp [go_sem];done) | simp [go_sem, *]⟩,StaAt.mk (by first | exact(W3o.out.keep ((Kp.refl _).alloc _)).rd | exact(((W3.out.far NB.out _).far NB.out _).far NB.out _).rd) (by rw [HNL.out];exact hn6) HIL.out,hHeld⟩
 case rest =>
  obtain⟨B0,A0,c0,rfl,rfl,LB,W0S,s4⟩:=hcut
  have CB:=Lib.hid (show (ce3 wc B0 (.int .i64 X) (.int .i64 Y) (.slice A0 nL c0)) from ⟨LB.1.1,LB.2.1.1,LB.2.2.1⟩)
  have WS:=Lib.hid W0S
  have HS4:=Lib.hid s4
  have hzc:=cell_lt s4.1
  clear LB W0S
  go_wp2_with fail
  refine(toBoard_any _ _ _ _ _ _ l m _ _ _ _ _ _ _ _ _ _ lt lr ld mt mr md _ (RA.out.keep s4.2.2.2.2.2.2.2.2.2.2.2.2.2.2.2) HE1.out HE2.out HE3.out).mono ?_
  rintro e5 w5 ⟨g1b,g2b,csb,ysb,zsb,A1b,c1b,A2b,c2b,A3b,c3b,rfl,o5,k5⟩
  have s5a:=keep15k k5 s4
  have kb:Kp w5 (w5.alloc (.cells #[.slice (some ⟨g1b,0,none⟩) nt nt,.slice (some ⟨g2b,0,none⟩) nk nk,.int .i64 a,.int .i64 b,.int .i64 c,.int .i64 d,.int .i64 e,.int .i64 W,.int .i64 H,.slice A1b mt c1b,.slice A2b mr c2b,.slice A3b md c3b] 47)):=(Kp.refl w5).alloc _
  have s5:cb12 (w5.alloc (.cells #[.slice (some ⟨g1b,0,none⟩) nt nt,.slice (some ⟨g2b,0,none⟩) nk nk,.int .i64 a,.int .i64 b,.int .i64 c,.int .i64 d,.int .i64 e,.int .i64 W,.int .i64 H,.slice A1b mt c1b,.slice A2b mr c2b,.slice A3b md c3b] 47)) (w.heap.size) (.slice At nt ct) (.slice Ak nk ck) (.int .i64 a) (.int .i64 b) (.int .i64 c) (.int .i64 d) (.int .i64 e) (.int .i64 W) (.int .i64 H) (x) (r) (y) (cb3 (w5.alloc (.cells #[.slice (some ⟨g1b,0,none⟩) nt nt,.slice (some ⟨g2b,0,none⟩) nk nk,.int .i64 a,.int .i64 b,.int .i64 c,.int .i64 d,.int .i64 e,.int .i64 W,.int .i64 H,.slice A1b mt c1b,.slice A2b mr c2b,.slice A3b md c3b] 47)) (w.heap.size+1) (.int .i64 T) (.int .i64 Z) (u) (cb12 (w5.alloc (.cells #[.slice (some ⟨g1b,0,none⟩) nt nt,.slice (some ⟨g2b,0,none⟩) nk nk,.int .i64 a,.int .i64 b,.int .i64 c,.int .i64 d,.int .i64 e,.int .i64 W,.int .i64 H,.slice A1b mt c1b,.slice A2b mr c2b,.slice A3b md c3b] 47)) (w5.heap.size) (.slice (some ⟨g1b,0,none⟩) nt nt) (.slice (some ⟨g2b,0,none⟩) nk nk) (.int .i64 a) (.int .i64 b) (.int .i64 c) (.int .i64 d) (.int .i64 e) (.int .i64 W) (.int .i64 H) (.slice A1b mt c1b) (.slice A2b mr c2b) (.slice A3b md c3b) (Kp w (w5.alloc (.cells #[.slice (some ⟨g1b,0,none⟩) nt nt,.slice (some ⟨g2b,0,none⟩) nk nk,.int .i64 a,.int .i64 b,.int .i64 c,.int .i64 d,.int .i64 e,.int .i64 W,.int .i64 H,.slice A1b mt c1b,.slice A2b mr c2b,.slice A3b md c3b] 47))))):=⟨kb.cell s5a.1,kb.cell s5a.2.1,kb.cell s5a.2.2.1,kb.cell s5a.2.2.2.1,kb.cell s5a.2.2.2.2.1,kb.cell s5a.2.2.2.2.2.1,kb.cell s5a.2.2.2.2.2.2.1,kb.cell s5a.2.2.2.2.2.2.2.1,kb.cell s5a.2.2.2.2.2.2.2.2.1,kb.cell s5a.2.2.2.2.2.2.2.2.2.1,kb.cell s5a.2.2.2.2.2.2.2.2.2.2.1,kb.cell s5a.2.2.2.2.2.2.2.2.2.2.2.1,kb.cell s5a.2.2.2.2.2.2.2.2.2.2.2.2.1,kb.cell s5a.2.2.2.2.2.2.2.2.2.2.2.2.2.1,kb.cell s5a.2.2.2.2.2.2.2.2.2.2.2.2.2.2.1,by simp [go_sem],by simp [go_sem],by simp [go_sem],by simp [go_sem],by simp [go_sem],by simp [go_sem],by simp [go_sem],by simp [go_sem],by simp [go_sem],by simp [go_sem],by simp [go_sem],by simp [go_sem],s5a.2.2.2.2.2.2.2.2.2.2.2.2.2.2.2.trans kb⟩
  have OR5:=Lib.hid (o5.keep kb)
  have I5:=Lib.hid (And.intro o5.R.z (And.intro (fun g e=>(World.ownsRow.lt o5.M.ot g e).2) (And.intro (fun g e=>(World.ownsRow.lt o5.M.or g e).2) (fun g e=>(World.ownsRow.lt o5.M.od g e).2))))
  have K45:Kp wc (w5.alloc (.cells #[.slice (some ⟨g1b,0,none⟩) nt nt,.slice (some ⟨g2b,0,none⟩) nk nk,.int .i64 a,.int .i64 b,.int .i64 c,.int .i64 d,.int .i64 e,.int .i64 W,.int .i64 H,.slice A1b mt c1b,.slice A2b mr c2b,.slice A3b md c3b] 47)):=k5.trans kb
  have hz45:=k5.size
  clear s4 k5 o5 s5a kb
  go_wp2_with fail
  generalize hW5:w5.alloc (.cells #[.slice (some ⟨g1b,0,none⟩) nt nt,.slice (some ⟨g2b,0,none⟩) nk nk,.int .i64 a,.int .i64 b,.int .i64 c,.int .i64 d,.int .i64 e,.int .i64 W,.int .i64 H,.slice A1b mt c1b,.slice A2b mr c2b,.slice A3b md c3b] 47)=W5 at *
  have hz5:W5.heap.size=w5.heap.size+1:=by rw [← hW5];simp
  clear hW5
  refine(toState_any T Z _ us mu _ (LA.out.keep s5.2.2.2.2.2.2.2.2.2.2.2.2.2.2.2.2.2.2.2.2.2.2.2.2.2.2.2) HE4.out).mono ?_
  rintro e6 w6 ⟨gub,rfl,o6,k6⟩
  have s6a:=keep27k k6 s5
  have kc:Kp w6 (w6.alloc (.cells #[.int .i64 T,.int .i64 Z,.slice (some ⟨gub,0,none⟩) mu mu] 51)):=(Kp.refl w6).alloc _
  have s6:cb12 (w6.alloc (.cells #[.int .i64 T,.int .i64 Z,.slice (some ⟨gub,0,none⟩) mu mu] 51)) (w.heap.size) (.slice At nt ct) (.slice Ak nk ck) (.int .i64 a) (.int .i64 b) (.int .i64 c) (.int .i64 d) (.int .i64 e) (.int .i64 W) (.int .i64 H) (x) (r) (y) (cb3 (w6.alloc (.cells #[.int .i64 T,.int .i64 Z,.slice (some ⟨gub,0,none⟩) mu mu] 51)) (w.heap.size+1) (.int .i64 T) (.int .i64 Z) (u) (cb12 (w6.alloc (.cells #[.int .i64 T,.int .i64 Z,.slice (some ⟨gub,0,none⟩) mu mu] 51)) (w5.heap.size) (.slice (some ⟨g1b,0,none⟩) nt nt) (.slice (some ⟨g2b,0,none⟩) nk nk) (.int .i64 a) (.int .i64 b) (.int .i64 c) (.int .i64 d) (.int .i64 e) (.int .i64 W) (.int .i64 H) (.slice A1b mt c1b) (.slice A2b mr c2b) (.slice A3b md c3b) (cb3 (w6.alloc (.cells #[.int .i64 T,.int .i64 Z,.slice (some ⟨gub,0,none⟩) mu mu] 51)) (w6.heap.size) (.int .i64 T) (.int .i64 Z) (.slice (some ⟨gub,0,none⟩) mu mu) (Kp w (w6.alloc (.cells #[.int .i64 T,.int .i64 Z,.slice (some ⟨gub,0,none⟩) mu mu] 51)))))):=⟨kc.cell s6a.1,kc.cell s6a.2.1,kc.cell s6a.2.2.1,kc.cell s6a.2.2.2.1,kc.cell s6a.2.2.2.2.1,kc.cell s6a.2.2.2.2.2.1,kc.cell s6a.2.2.2.2.2.2.1,kc.cell s6a.2.2.2.2.2.2.2.1,kc.cell s6a.2.2.2.2.2.2.2.2.1,kc.cell s6a.2.2.2.2.2.2.2.2.2.1,kc.cell s6a.2.2.2.2.2.2.2.2.2.2.1,kc.cell s6a.2.2.2.2.2.2.2.2.2.2.2.1,kc.cell s6a.2.2.2.2.2.2.2.2.2.2.2.2.1,kc.cell s6a.2.2.2.2.2.2.2.2.2.2.2.2.2.1,kc.cell s6a.2.2.2.2.2.2.2.2.2.2.2.2.2.2.1,kc.cell s6a.2.2.2.2.2.2.2.2.2.2.2.2.2.2.2.1,kc.cell s6a.2.2.2.2.2.2.2.2.2.2.2.2.2.2.2.2.1,kc.cell s6a.2.2.2.2.2.2.2.2.2.2.2.2.2.2.2.2.2.1,kc.cell s6a.2.2.2.2.2.2.2.2.2.2.2.2.2.2.2.2.2.2.1,kc.cell s6a.2.2.2.2.2.2.2.2.2.2.2.2.2.2.2.2.2.2.2.1,kc.cell s6a.2.2.2.2.2.2.2.2.2.2.2.2.2.2.2.2.2.2.2.2.1,kc.cell s6a.2.2.2.2.2.2.2.2.2.2.2.2.2.2.2.2.2.2.2.2.2.1,kc.cell s6a.2.2.2.2.2.2.2.2.2.2.2.2.2.2.2.2.2.2.2.2.2.2.1,kc.cell s6a.2.2.2.2.2.2.2.2.2.2.2.2.2.2.2.2.2.2.2.2.2.2.2.1,kc.cell s6a.2.2.2.2.2.2.2.2.2.2.2.2.2.2.2.2.2.2.2.2.2.2.2.2.1,kc.cell s6a.2.2.2.2.2.2.2.2.2.2.2.2.2.2.2.2.2.2.2.2.2.2.2.2.2.1,kc.cell s6a.2.2.2.2.2.2.2.2.2.2.2.2.2.2.2.2.2.2.2.2.2.2.2.2.2.2.1,by simp [go_sem],by simp [go_sem],by simp [go_sem],s6a.2.2.2.2.2.2.2.2.2.2.2.2.2.2.2.2.2.2.2.2.2.2.2.2.2.2.2.trans kc⟩
  have OR6:=Lib.hid (OR5.out.keep (k6.trans kc))
  have OM6:=Lib.hid (o6.keep kc)
  have I6:=Lib.hid (fun g e=>(World.ownsRow.lt o6 g e).2)
  have K46:Kp wc (w6.alloc (.cells #[.int .i64 T,.int .i64 Z,.slice (some ⟨gub,0,none⟩) mu mu] 51)):=K45.trans (k6.trans kc)
  have hz6:=k6.size
  clear s5 k6 o6 s6a kc OR5 K45
  go_wp2_with fail
  generalize hW6:w6.alloc (.cells #[.int .i64 T,.int .i64 Z,.slice (some ⟨gub,0,none⟩) mu mu] 51)=W6 at *
  have hz6':W6.heap.size=w6.heap.size+1:=by rw [← hW6];simp
  clear hW6
  refine(CT.out _ _ (HP.out.keep s6.2.2.2.2.2.2.2.2.2.2.2.2.2.2.2.2.2.2.2.2.2.2.2.2.2.2.2.2.2.2)).mono ?_
  rintro e61 w61 ⟨xp,rfl,o61,k61⟩
  have s6n:=keep30k k61 s6
  have OR6n:=Lib.hid (OR6.out.keep k61)
  have OM6n:=Lib.hid (OM6.out.keep k61)
  have K46n:=K46.trans k61
  have OP:=Lib.hid o61
  have hxp:∀ g,xp.ownBlock=some g→g<w61.heap.size:=fun g hg=>(World.ownsRow.lt o61 g hg).2
  have HXP:=Lib.hid hxp
  clear hxp
  have hz61:=k61.size
  clear s6 OR6 OM6 K46 k61 o61
  have s6:=s6n
  have OR6:=OR6n
  have OM6:=OM6n
  have K46:=K46n
  clear s6n OR6n OM6n K46n
  go_wp2_with fail
  refine(CI.out _ _ _ _ _ _ _ _ _ _ _ _ (OR6.out.at RA.out) (OM6.out.sta LA.out) OP.out.rd (HS0.out.keep s6.2.2.2.2.2.2.2.2.2.2.2.2.2.2.2.2.2.2.2.2.2.2.2.2.2.2.2.2.2.2) (HS1.out.keep s6.2.2.2.2.2.2.2.2.2.2.2.2.2.2.2.2.2.2.2.2.2.2.2.2.2.2.2.2.2.2) (HS2.out.keep s6.2.2.2.2.2.2.2.2.2.2.2.2.2.2.2.2.2.2.2.2.2.2.2.2.2.2.2.2.2.2)).mono ?_
  rintro e7 w7 ⟨A1,c1,rfl,o7,k7⟩
  have s7:=keep30k k7 s6
  have kg:Kp w7 (w7.alloc (.cells #[.int .i64 X,.int .i64 Y,.slice A1 nL c1] 51)):=(Kp.refl w7).alloc _
  have s8:=keep30k kg s7
  have g8:(ce3 (w7.alloc (.cells #[.int .i64 X,.int .i64 Y,.slice A1 nL c1] 51)) (w7.heap.size) (.int .i64 X) (.int .i64 Y) (.slice A1 nL c1)):=⟨by simp [go_sem],by simp [go_sem],by simp [go_sem]⟩
  have O8:=Lib.hid ((o7.base (b:=w61.heap.size) (by omega)).keep kg)
  have HG7:=Lib.hid (fun g e=>(World.ownsRow.lt o7 g e).2)
  have OR7:=Lib.hid (OR6.out.keep (k7.trans kg))
  have OM7:=Lib.hid (OM6.out.keep (k7.trans kg))
  have OP7:=Lib.hid (OP.out.keep (k7.trans kg))
  have K47:Kp wc (w7.alloc (.cells #[.int .i64 X,.int .i64 Y,.slice A1 nL c1] 51)):=K46.trans (k7.trans kg)
  have hz7:=k7.size
  have b8:(ce3 (w7.alloc (.cells #[.int .i64 X,.int .i64 Y,.slice A1 nL c1] 51)) B0 (.int .i64 X) (.int .i64 Y) (.slice A0 nL c0)):=⟨K47.cell CB.out.1,K47.cell CB.out.2.1,K47.cell CB.out.2.2⟩
  clear s6 k7 o7 OR6 OM6 K46 s7 kg OP
  go_wp2_with fail
  generalize hW8:w7.alloc (.cells #[.int .i64 X,.int .i64 Y,.slice A1 nL c1] 51)=W8 at *
  have hz8:W8.heap.size=w7.heap.size+1:=by rw [← hW8];simp
  clear hW8
  refine(eqState_same X Y _ _ LL _ (StaAt.mk O8.out.rd (by rw [HNL.out];exact hn6) HIL.out) (WS.out.keep K47)).mono ?_
  rintro e8 w8 ⟨rfl,k8⟩
  have s8a:=keep30k k8 s8
  have G8:=Lib.hid (show (ce3 w8 (w7.heap.size) (.int .i64 X) (.int .i64 Y) (.slice A1 nL c1)) from ⟨k8.cell g8.1,k8.cell g8.2.1,k8.cell g8.2.2⟩)
  have O7:=Lib.hid (O8.out.keep k8)
  have OR8:=Lib.hid (OR7.out.keep k8)
  have OM8:=Lib.hid (OM7.out.keep k8)
  have OP8:=Lib.hid (OP7.out.keep k8)
  have K48:Kp wc w8:=K47.trans k8
  have hz8':=k8.size
  clear s8 g8 b8 k8 O8 OR7 OM7 K47 OP7
  go_wp2_with fail
  have s8:=drew30k s8a
  clear s8a
  go_wp2_with fail
  go_region_held3 (fun w'=>cb12 w' (w.heap.size) (.slice At nt ct) (.slice Ak nk ck) (.int .i64 a) (.int .i64 b) (.int .i64 c) (.int .i64 d) (.int .i64 e) (.int .i64 W) (.int .i64 H) (x) (r) (y) (cb3 w' (w.heap.size+1) (.int .i64 T) (.int .i64 Z) (u) (cb12 w' (w5.heap.size) (.slice (some ⟨g1b,0,none⟩) nt nt) (.slice (some ⟨g2b,0,none⟩) nk nk) (.int .i64 a) (.int .i64 b) (.int .i64 c) (.int .i64 d) (.int .i64 e) (.int .i64 W) (.int .i64 H) (.slice A1b mt c1b) (.slice A2b mr c2b) (.slice A3b md c3b) (cb3 w' (w6.heap.size) (.int .i64 T) (.int .i64 Z) (.slice (some ⟨gub,0,none⟩) mu mu) (Kp w w'))))) (first | assumption | exact s8)
   (first
    | (go_at_call 18;refine(toBoard_any _ _ _ _ _ _ l m _ _ _ _ _ _ _ _ _ _ lt lr ld mt mr md _ (RA.out.keep s8.2.2.2.2.2.2.2.2.2.2.2.2.2.2.2.2.2.2.2.2.2.2.2.2.2.2.2.2.2.2) HE1.out HE2.out HE3.out).mono ?_;rintro e9 w9 ⟨g1c,g2c,csc,ysc,zsc,A1c,c1c,A2c,c2c,A3c,c3c,rfl,o9,k9⟩;have s9:=keep30k k9 s8;have L9:=Lib.hid (o9.at RA.out);have M9:=Lib.hid ((OR8.out.keep ((Kp.refl _).drew)).keep k9);have N9:=Lib.hid (M9.out.at RA.out);have k89:=Lib.hid ((Kp.refl w8).drew.trans k9))
    | (go_at_call 22;refine(eqBoard_same _ _ _ _ _ _ _ _ _ _ l m _ _ _ _ _ _ _ _ _ _ _ _ _ lt lr ld _ N9.out L9.out).mono ?_;rintro e10 w10 ⟨rfl,k10⟩;have s10a:=keep30k k10 s9;have ORa:=Lib.hid (M9.out.keep k10);have k8a:=Lib.hid (k89.out.trans k10)))
  have Oa:=Lib.hid (O7.out.keep k8a.out)
  have Ga:=Lib.hid (show (ce3 w10 (w7.heap.size) (.int .i64 X) (.int .i64 Y) (.slice A1 nL c1)) from ⟨k8a.out.cell G8.out.1,k8a.out.cell G8.out.2.1,k8a.out.cell G8.out.2.2⟩)
  have OMa:=Lib.hid (OM8.out.keep k8a.out)
  have OPa:=Lib.hid (OP8.out.keep k8a.out)
  have K4a:Kp wc w10:=K48.trans k8a.out
  have hza:=k8a.out.size
  clear s8 s9 L9 M9 N9 k89 k8a OR8 OM8 K48
  have s10:=drew30k s10a
  clear s10a
  go_wp2_with fail
  go_region_held3 (fun w'=>cb12 w' (w.heap.size) (.slice At nt ct) (.slice Ak nk ck) (.int .i64 a) (.int .i64 b) (.int .i64 c) (.int .i64 d) (.int .i64 e) (.int .i64 W) (.int .i64 H) (x) (r) (y) (cb3 w' (w.heap.size+1) (.int .i64 T) (.int .i64 Z) (u) (cb12 w' (w5.heap.size) (.slice (some ⟨g1b,0,none⟩) nt nt) (.slice (some ⟨g2b,0,none⟩) nk nk) (.int .i64 a) (.int .i64 b) (.int .i64 c) (.int .i64 d) (.int .i64 e) (.int .i64 W) (.int .i64 H) (.slice A1b mt c1b) (.slice A2b mr c2b) (.slice A3b md c3b) (cb3 w' (w6.heap.size) (.int .i64 T) (.int .i64 Z) (.slice (some ⟨gub,0,none⟩) mu mu) (Kp w w'))))) (first | assumption | exact s10)
   (first
    | (go_at_call 19;refine(toState_any T Z _ us mu _ (LA.out.keep s10.2.2.2.2.2.2.2.2.2.2.2.2.2.2.2.2.2.2.2.2.2.2.2.2.2.2.2.2.2.2) HE4.out).mono ?_;rintro e11 w11 ⟨guc,rfl,o11,k11⟩;have s11:=keep30k k11 s10;have L11:=Lib.hid (o11.sta LA.out);have M11:=Lib.hid ((OMa.out.keep ((Kp.refl _).drew)).keep k11);have N11:=Lib.hid (M11.out.sta LA.out);have kab:=Lib.hid ((Kp.refl w10).drew.trans k11))
    | (go_at_call 23;refine(eqState_same T Z _ _ us _ N11.out L11.out).mono ?_;rintro e12 w12 ⟨rfl,k12⟩;have s12:=keep30k k12 s11;have OMb:=Lib.hid (M11.out.keep k12);have kac:=Lib.hid (kab.out.trans k12)))
  have Ob:=Lib.hid (Oa.out.keep kac.out)
  have Gb:=Lib.hid (show (ce3 w12 (w7.heap.size) (.int .i64 X) (.int .i64 Y) (.slice A1 nL c1)) from ⟨kac.out.cell Ga.out.1,kac.out.cell Ga.out.2.1,kac.out.cell Ga.out.2.2⟩)
  have ORb:=Lib.hid (ORa.out.keep kac.out)
  have OPb:=Lib.hid (OPa.out.keep kac.out)
  have K4b:Kp wc w12:=K4a.trans kac.out
  have hzb:=kac.out.size
  have hz4b:=K4b.size
  clear s10 s11 L11 M11 N11 kab kac Oa O7 ORa OMa K4a G8 Ga OPa OP8
  go_wp2_with fail
  refine(CT.out _ _ (HP.out.keep s12.2.2.2.2.2.2.2.2.2.2.2.2.2.2.2.2.2.2.2.2.2.2.2.2.2.2.2.2.2.2)).mono ?_
  rintro e32 w32 ⟨x32,rfl,o32,k32⟩
  have OP32:=Lib.hid (OPb.out.keep k32)
  have R32:=Lib.hid o32.rd
  clear o32 OPb
  go_wp2_with fail
  refine(eqIntS_same xp x32 p _ OP32.out.rd R32.out hpl).mono ?_
  rintro e33 w33 ⟨rfl,k33⟩
  have k3233:=k32.trans k33
  have ObN:=Lib.hid (Ob.out.keep k3233)
  have ORbN:=Lib.hid (ORb.out.keep k3233)
  have OMbN:=Lib.hid (OMb.out.keep k3233)
  have OPbN:=Lib.hid (OP32.out.keep k33)
  have GbN:=Lib.hid (show (ce3 w33 (w7.heap.size) (.int .i64 X) (.int .i64 Y) (.slice A1 nL c1)) from ⟨k3233.cell Gb.out.1,k3233.cell Gb.out.2.1,k3233.cell Gb.out.2.2⟩)
  have K4bN:=K4b.trans k3233
  have s12N:=keep30k k3233 s12
  have hz33:=K4bN.size
  have hz332:=k3233.size
  clear Ob ORb OMb K4b s12 OP32 R32 k32 k33 k3233 Gb
  have Ob:=ObN
  have ORb:=ORbN
  have OMb:=OMbN
  have OPb:=OPbN
  have Gb:=GbN
  have K4b:=K4bN
  have s12:=s12N
  clear ObN ORbN OMbN OPbN GbN K4bN s12N
  go_wp2_with fail
  refine(markBoard_u wc.heap.size _ _ _ _ l m _ _ _ _ _ _ _ _ _ _ 1 _ _ _ lt lr ld _ ORb.out RA.out.R.bt RA.out.R.bk (fun x hx=>(RA.out.R.bc x hx).1) SM.out.2 (by omega) w5.heap.size (by omega) I5.out.1 I5.out.2.1 I5.out.2.2.1 I5.out.2.2.2 (by omega) (by omega)).mono ?_
  rintro e13 w13 ⟨kk,rfl,y13,z13,m13⟩
  have c13:ce3 w13 (w6.heap.size) (.int .i64 T) (.int .i64 Z) (.slice (some ⟨gub,0,none⟩) mu mu):=⟨m13.cell_hi (by omega) s12.2.2.2.2.2.2.2.2.2.2.2.2.2.2.2.2.2.2.2.2.2.2.2.2.2.2.2.1,m13.cell_hi (by omega) s12.2.2.2.2.2.2.2.2.2.2.2.2.2.2.2.2.2.2.2.2.2.2.2.2.2.2.2.2.1,m13.cell_hi (by omega) s12.2.2.2.2.2.2.2.2.2.2.2.2.2.2.2.2.2.2.2.2.2.2.2.2.2.2.2.2.2.1⟩
  have Gc:=Lib.hid (show (ce3 w13 (w7.heap.size) (.int .i64 X) (.int .i64 Y) (.slice A1 nL c1)) from ⟨m13.cell_hi (by omega) Gb.out.1,m13.cell_hi (by omega) Gb.out.2.1,m13.cell_hi (by omega) Gb.out.2.2⟩)
  have K4c:Kp wc w13:=m13.kp K4b (Nat.le_refl _)
  have Oc:Hid (OwnU w13 w61.heap.size (.slice A1 nL c1) LL):=Lib.hid (m13.own Ob.out (fun g hg=>by
   have h1:=(World.ownsRow.lt Ob.out g hg).1
   omega))
  have OMc:Hid (w13.ownsRow W5.heap.size 152 4 (.slice (some ⟨gub,0,none⟩) mu mu) mu (cellsU us)):=Lib.hid (by
   have h0:=m13.own OMb.out (fun g hg=>by
    have h1:=(World.ownsRow.lt OMb.out g hg).1
    omega)
   rw [HE4.out] at h0
   exact h0)
  have OPc:Hid (OwnI w13 W6.heap.size xp p):=Lib.hid (m13.own OPb.out (fun g hg=>by
   have h1:=(World.ownsRow.lt OPb.out g hg).1
   omega))
  have hzc':=m13.1.size
  clear m13 Ob ORb OMb K4b s12 Gb OPb
  go_wp2_with fail
  refine(markState_own T Z _ mu W5.heap.size w6.heap.size kk _ _ (by omega) (by omega) hmu OMc.out (by omega) I6.out).mono ?_
  rintro e14 w14 ⟨rfl,o14,m14⟩
  have K4d:Kp wc w14:=m14.kp K4c (by omega)
  have Od:Hid (OwnU w14 w61.heap.size (.slice A1 nL c1) LL):=Lib.hid (m14.own Oc.out (fun g hg=>by
   have h1:=(World.ownsRow.lt Oc.out g hg).1
   omega))
  have OPd:Hid (OwnI w14 W6.heap.size xp p):=Lib.hid (m14.own OPc.out (fun g hg=>by
   have h1:=(World.ownsRow.lt OPc.out g hg).1
   omega))
  have hz14b:=K4d.size
  have g14:(ce3 w14 (w7.heap.size) (.int .i64 X) (.int .i64 Y) (.slice A1 nL c1)):=⟨m14.cell_hi (by omega) Gc.out.1,m14.cell_hi (by omega) Gc.out.2.1,m14.cell_hi (by omega) Gc.out.2.2⟩
  have b14:(ce3 w14 B0 (.int .i64 X) (.int .i64 Y) (.slice A0 nL c0)):=⟨K4d.cell CB.out.1,K4d.cell CB.out.2.1,K4d.cell CB.out.2.2⟩
  have hz14:=m14.1.size
  clear m14 o14 Oc OMc K4c c13 Gc OPc
  go_wp2_with fail
  refine(markIntS_own xp p.length W6.heap.size (kk+4*(mu:Int)) (cellsI p) _ (by omega) (by omega) (by omega) OPd.out).mono ?_
  rintro e34 w34 ⟨rfl,om34,gm34⟩
  have hxo:∀ k,xp.ownBlock=some k→W6.heap.size≤k∧k<w61.heap.size:=fun k e=>⟨(World.ownsRow.lt OPd.out k e).1,HXP.out k e⟩
  have K4m:Kp wc w34:=K4d.grown gm34 (fun k e=>by have:=hxo k e;omega)
  have OdM:Hid (OwnU w34 w61.heap.size (.slice A1 nL c1) LL):=Lib.hid (World.ownsRow.kept Od.out gm34 (by
   cases hv:(Value.slice A1 nL c1).ownBlock
   ·exact .inl rfl
   ·rename_i k
    refine .inr fun e=>?_
    have h1:=(World.ownsRow.lt Od.out k hv).1
    have h2:=HXP.out k e.symm
    omega))
  have hw7:w61.heap.size≤w7.heap.size:=by omega
  have hz34:=gm34.size
  have g34:(ce3 w34 (w7.heap.size) (.int .i64 X) (.int .i64 Y) (.slice A1 nL c1)):=⟨gm34.cell g14.1 (fun e=>by have h9:w7.heap.size<w61.heap.size:=HXP.out _ e.symm;omega),gm34.cell g14.2.1 (fun e=>by have h9:w7.heap.size<w61.heap.size:=HXP.out _ e.symm;omega),gm34.cell g14.2.2 (fun e=>by have h9:w7.heap.size<w61.heap.size:=HXP.out _ e.symm;omega)⟩
  have b34:(ce3 w34 B0 (.int .i64 X) (.int .i64 Y) (.slice A0 nL c0)):=⟨K4m.cell CB.out.1,K4m.cell CB.out.2.1,K4m.cell CB.out.2.2⟩
  have hk0:¬ (kk+4*(mu:Int)+(p.length:Int))<0:=by omega
  clear om34 gm34 OPd Od K4d g14 b14 hxo
  have Od:=OdM
  have K4d:=K4m
  have g14:=g34
  have b14:=b34
  clear OdM K4m g34 b34
  go_wp2_with fail
  refine(eqState_same X Y _ _ LL _ (StaAt.mk Od.out.rd (by rw [HNL.out];exact hn6) HIL.out) (WS.out.keep K4d)).mono ?_
  rintro e15 w15 ⟨rfl,k15⟩
  have Oe:=Lib.hid ((Od.out.keep k15).row HNL.out)
  have K4e:Kp wc w15:=K4d.trans k15
  have g15:(ce3 w15 (w7.heap.size) (.int .i64 X) (.int .i64 Y) (.slice A1 nL c1)):=⟨k15.cell g14.1,k15.cell g14.2.1,k15.cell g14.2.2⟩
  have hz15:=k15.size
  clear Od K4d k15 g14 b14
  go_wp2_with fail
  refine(markState_own X Y _ nL w61.heap.size w7.heap.size 1 _ _ (by omega) (by omega) hn6 Oe.out (by omega) HG7.out).mono ?_
  rintro e16 w16 ⟨rfl,om,m16⟩
  have K4f:Kp wc w16:=m16.kp K4e (by omega)
  have g16:(ce3 w16 (w7.heap.size) (.int .i64 X) (.int .i64 Y) (.slice A1 nL c1)):=⟨m16.cell_hi (Nat.le_refl _) g15.1,m16.cell_hi (Nat.le_refl _) g15.2.1,m16.cell_hi (Nat.le_refl _) g15.2.2⟩
  have OM:=Lib.hid om
  have hne:((1+4*(nL:Int)) != (1+4*(nL:Int)))=false:=by simp
  clear om m16 Oe K4e g15
  go_wp2_with fail
  refine(heldState_own X Y _ nL w61.heap.size 1 _ (by omega) (by omega) hn6 OM.out).mono ?_
  rintro e17 w17 ⟨rfl,k17⟩
  have OM2:=Lib.hid (ownsRow_keep OM.out k17)
  have K4g:Kp wc w17:=K4f.trans k17
  have g17:=Lib.hid (show (ce3 w17 (w7.heap.size) (.int .i64 X) (.int .i64 Y) (.slice A1 nL c1)) from ⟨k17.cell g16.1,k17.cell g16.2.1,k17.cell g16.2.2⟩)
  have s17w:=keep15k K4g HS4.out
  have K17:Kp w w17:=s17w.2.2.2.2.2.2.2.2.2.2.2.2.2.2.2
  have s17d:cb12 (w17.drew) (w.heap.size) (.slice At nt ct) (.slice Ak nk ck) (.int .i64 a) (.int .i64 b) (.int .i64 c) (.int .i64 d) (.int .i64 e) (.int .i64 W) (.int .i64 H) (x) (r) (y) (cb3 (w17.drew) (w.heap.size+1) (.int .i64 T) (.int .i64 Z) (u) (Kp w17 w17.drew)):=⟨s17w.1,s17w.2.1,s17w.2.2.1,s17w.2.2.2.1,s17w.2.2.2.2.1,s17w.2.2.2.2.2.1,s17w.2.2.2.2.2.2.1,s17w.2.2.2.2.2.2.2.1,s17w.2.2.2.2.2.2.2.2.1,s17w.2.2.2.2.2.2.2.2.2.1,s17w.2.2.2.2.2.2.2.2.2.2.1,s17w.2.2.2.2.2.2.2.2.2.2.2.1,s17w.2.2.2.2.2.2.2.2.2.2.2.2.1,s17w.2.2.2.2.2.2.2.2.2.2.2.2.2.1,s17w.2.2.2.2.2.2.2.2.2.2.2.2.2.2.1,(Kp.refl w17).drew⟩
  clear K4f k17 OM HS4 s17w g16
  go_upto_region 37 with (fail)
  go_cut [20,21] (fun s19 s20 wx=>∃ (B1:Nat) (A2:Option Addr) (c2:Nat),s19=.pointer (some ⟨B1,0,none⟩)∧s20=.bool B∧LivS wx B1 (.int .i64 X) (.int .i64 Y) (.slice A2 nL c2)∧StaAt wx (.slice A2 nL c2) LL∧Kp w17 wx)
  case first =>
   refine wp_region_held_drew (S:=(fun w'=>cb12 w' (w.heap.size) (.slice At nt ct) (.slice Ak nk ck) (.int .i64 a) (.int .i64 b) (.int .i64 c) (.int .i64 d) (.int .i64 e) (.int .i64 W) (.int .i64 H) (x) (r) (y) (cb3 w' (w.heap.size+1) (.int .i64 T) (.int .i64 Z) (u) (Kp w17 w')))) (by kernel_rfl) ?_ (fun hHeld=>?_)
   ·assumption
   generalize w17.drew=V at *
   refine tk 0 ⟨some 118,_,_,_,_,_⟩ ?_ rfl (by kernel_rfl) (fun _ _ _ h=>h) (by rfl) ?_ (by assumption) ?_
   rotate_left
   ·intro w hSw;(try dsimp only at hSw);go_simp;(all_goals with_reducible rfl)
   simp only [Act.put,sA,sB,sC]
   refine tk 2 ⟨some 120,_,_,_,_,_⟩ ?_ rfl (by kernel_rfl) (fun _ _ _ h=>h) (by rfl) ?_ (by assumption) ?_
   rotate_left
   ·intro w hSw;(try dsimp only at hSw);go_simp;(all_goals with_reducible rfl)
   simp only [Act.put,sA,sB,sC]
   refine tk 4 ⟨some 122,_,_,_,_,_⟩ ?_ rfl (by kernel_rfl) (fun _ _ _ h=>h) (by rfl) ?_ (by assumption) ?_
   rotate_left
   ·intro w hSw;(try dsimp only at hSw);go_simp;(all_goals with_reducible rfl)
   simp only [Act.put,sA,sB,sC]
   refine tk 5 ⟨some 123,_,_,_,_,_⟩ ?_ rfl (by kernel_rfl) (fun _ _ _ h=>h) (by rfl) ?_ (by assumption) ?_
   rotate_left
   ·intro w hSw;(try dsimp only at hSw);go_simp;(all_goals with_reducible rfl)
   simp only [Act.put,sA,sB,sC]
   refine wpAnyH_ready (rs:=[1,11]) (by kernel_rfl) (by simp) ?_
   refine(AllReadyH.cons (o:=⟨some 119,_,_,_,_,_⟩) rfl (fun K hK=>?_) (AllReadyH.cons (o:=⟨some 20,_,_,_,_,_⟩) rfl (fun K hK=>?_) AllReadyH.nil))
   ·go_simp
    refine(toBoard_any _ _ _ _ _ _ l m _ _ _ _ _ _ _ _ _ _ lt lr ld mt mr md _ (RA.out.keep (K17.trans hHeld.2.2.2.2.2.2.2.2.2.2.2.2.2.2.2)) HE1.out HE2.out HE3.out).mono ?_
    rintro e3 w3 ⟨g1a,g2a,csa,ysa,zsa,A1a,c1a,A2a,c2a,A3a,c3a,rfl,o3,k3⟩
    have hS3:=keep15k k3 hHeld
    have R3:=Lib.hid (o3.at RA.out)
    try (have L10:=livS_keep k3 L10)
    go_wp2_with fail
    refine hK.out _ _ ?_ (fun hHeld=>?_)
    ·(try dsimp only);(assumption)
    clear hK K
    try simp only [Act.put,sA,sB,sC]
    refine wpAnyH_ready (rs:=[3,11]) (by kernel_rfl) (by simp) ?_
    refine(AllReadyH.cons (o:=⟨some 121,_,_,_,_,_⟩) rfl (fun K hK=>?_) (AllReadyH.cons (o:=⟨some 20,_,_,_,_,_⟩) rfl (fun K hK=>?_) AllReadyH.nil))
    ·go_simp
     refine(toState_any T Z _ us mu _ (LA.out.keep (K17.trans hHeld.2.2.2.2.2.2.2.2.2.2.2.2.2.2.2)) HE4.out).mono ?_
     rintro e3' w3' ⟨gua,rfl,o3',k3'⟩
     have hS3':=keep15k k3' hHeld
     have B3:=Lib.hid (R3.out.keep k3')
     have S3:=Lib.hid (o3'.sta LA.out)
     try (have L10:=livS_keep k3' L10)
     go_wp2_with fail
     refine hK.out _ _ ?_ (fun hHeld=>?_)
     ·(try dsimp only);(assumption)
     clear hK K
     try simp only [Act.put,sA,sB,sC]
     refine wpAnyH_ready (rs:=[6,11]) (by kernel_rfl) (by simp) ?_
     refine(AllReadyH.cons (o:=⟨some 124,_,_,_,_,_⟩) rfl (fun K hK=>?_) (AllReadyH.cons (o:=⟨some 20,_,_,_,_,_⟩) rfl (fun K hK=>?_) AllReadyH.nil))
     ·go_simp
      refine(CT.out _ _ (HP.out.keep (K17.trans hHeld.2.2.2.2.2.2.2.2.2.2.2.2.2.2.2))).mono ?_
      rintro e31 w31 ⟨x31,rfl,o31,k31⟩
      have hS31:=keep15k k31 hHeld
      have R31:=Lib.hid o31.rd
      have B3:=Lib.hid (B3.out.keep k31)
      have S3:=Lib.hid (S3.out.keep k31)
      try (have L10:=livS_keep k31 L10)
      go_wp2_with fail
      refine hK.out _ _ ?_ (fun hHeld=>?_)
      ·(try dsimp only);(assumption)
      clear hK K
      try simp only [Act.put,sA,sB,sC]
      refine wpAnyH_ready (rs:=[7,11]) (by kernel_rfl) (by simp) ?_
      refine(AllReadyH.cons (o:=⟨some 125,_,_,_,_,_⟩) rfl (fun K hK=>?_) (AllReadyH.cons (o:=⟨some 20,_,_,_,_,_⟩) rfl (fun K hK=>?_) AllReadyH.nil))
      ·go_simp
       try (have hzB:=cell_lt L10.1.1)
       refine(CI.out _ _ _ _ _ _ _ _ _ _ _ _ B3.out S3.out R31.out (HS0.out.keep (K17.trans hHeld.2.2.2.2.2.2.2.2.2.2.2.2.2.2.2)) (HS1.out.keep (K17.trans hHeld.2.2.2.2.2.2.2.2.2.2.2.2.2.2.2)) (HS2.out.keep (K17.trans hHeld.2.2.2.2.2.2.2.2.2.2.2.2.2.2.2))).mono ?_
       rintro e4 w4 ⟨A0',c0',rfl,o4,k4⟩
       have hS4:=keep15k k4 hHeld
       have W3:=Lib.hid o4
       have W3o:=Lib.hid o4
       try (have NB:=Lib.hid (o4.not hzB))
       try (have L10:=livS_keep k4 L10)
       go_wp2_with fail
       refine hK.out _ _ ?_ (fun hHeld=>?_)
       ·(try dsimp only);(assumption)
       clear hK K
       try simp only [Act.put,sA,sB,sC]
       refine tk 8 ⟨some 117,_,_,_,_,_⟩ ?_ rfl (by kernel_rfl) (fun _ _ _ h=>h) (by rfl) ?_ (by assumption) ?_
       rotate_left
       ·intro w hSw;(try dsimp only at hSw);go_simp;(all_goals with_reducible rfl)
       simp only [Act.put,sA,sB,sC]
       refine tk 9 ⟨some 126,_,_,_,_,_⟩ ?_ rfl (by kernel_rfl) (fun _ _ _ h=>h) (by rfl) ?_ (by assumption) ?_
       rotate_left
       ·intro w hSw;(try dsimp only at hSw);go_simp;(all_goals with_reducible rfl)
       simp only [Act.put,sA,sB,sC]
       refine tk 10 ⟨some 127,_,_,_,_,_⟩ ?_ rfl (by kernel_rfl) (fun _ _ _ h=>h) (by rfl) ?_ (by assumption) ?_
       rotate_left
       ·intro w hSw;(try dsimp only at hSw);go_simp;(all_goals with_reducible rfl)
       simp only [Act.put,sA,sB,sC]
       refine wpAnyH_ready (rs:=[11]) (by kernel_rfl) (by simp) ?_
       refine(AllReadyH.cons (o:=⟨some 20,_,_,_,_,_⟩) rfl (fun K hK=>?_) AllReadyH.nil)
       go_simp
       go_wp2_with fail
       have nz:=liv_new hHeld
       have L10:=nz.1
       have hSa:=keep15k nz.2 hHeld
       have hn0:=Nat.ne_of_gt (cell_lt hHeld.1)
       have hn1:=Nat.ne_of_gt (cell_lt hHeld.2.2.2.2.2.2.2.2.2.2.2.2.1)
       have hn2:=hHeld.2.2.2.2.2.2.2.2.2.2.2.2.2.2.2.size
       try (have R3:=Lib.hid (R3.out.keep nz.2))
       try (have B3:=Lib.hid (B3.out.keep nz.2))
       try (have S3:=Lib.hid (S3.out.keep nz.2))
       try (have R31:=Lib.hid (R31.out.keep nz.2))
       try (have W3:=Lib.hid (W3.out.keep nz.2))
       refine hK.out _ _ ?_ (fun hHeld=>?_)
       ·(try dsimp only);(assumption)
       clear hK K
       try simp only [Act.put,sA,sB,sC]
       refine wpAnyH_ready (rs:=[12]) (by kernel_rfl) (by simp) ?_
       refine(AllReadyH.cons (o:=⟨none,_,_,_,_,_⟩) rfl (fun K hK=>?_) AllReadyH.nil)
       go_simp
       go_wp2_with fail
       refine hK.out _ _ ?_ (fun hHeld=>?_)
       ·(try dsimp only);(first | exact keep15k ((Kp.refl _).alloc _) hS4 | exact⟨by simp [go_sem, *],by simp [go_sem, *],by simp [go_sem, *],by simp [go_sem, *],by simp [go_sem, *],by simp [go_sem, *],by simp [go_sem, *],by simp [go_sem, *],by simp [go_sem, *],by simp [go_sem, *],by simp [go_sem, *],by simp [go_sem, *],by simp [go_sem, *],by simp [go_sem, *],by simp [go_sem, *],((hHeld.2.2.2.2.2.2.2.2.2.2.2.2.2.2.2.setCell (by first | omega | (simp;omega)) _).setCell (by first | omega | (simp;omega)) _).setCell (by first | omega | (simp;omega)) _⟩)
       clear hK K
       try simp only [Act.put,sA,sB,sC]
       refine tk 13 ⟨some 21,_,_,_,_,_⟩ ?_ rfl (by kernel_rfl) (fun _ _ _ h=>h) (by rfl) ?_ (by assumption) ?_
       rotate_left
       ·intro w hSw;(try dsimp only at hSw);go_simp;(all_goals with_reducible rfl)
       simp only [Act.put,sA,sB,sC]
       refine wpAnyH_done (by kernel_rfl) ?_ _
       go_wp2_with fail
       go_meet
       exact⟨_,A0',c0',rfl,rfl,⟨by first | (simp [go_sem];done) | simp [go_sem, *],by first | (simp [go_sem];done) | simp [go_sem, *],by first | (simp [go_sem];done) | simp [go_sem, *]⟩,StaAt.mk (by first | exact(W3o.out.keep ((Kp.refl _).alloc _)).rd | exact(((W3.out.far NB.out _).far NB.out _).far NB.out _).rd) (by rw [HNL.out];exact hn6) HIL.out,hHeld.2.2.2.2.2.2.2.2.2.2.2.2.2.2.2⟩
      ·go_simp
       go_wp2_with fail
       have nz:=liv_new hHeld
       have L10:=nz.1
       have hSa:=keep15k nz.2 hHeld
       have hn0:=Nat.ne_of_gt (cell_lt hHeld.1)
       have hn1:=Nat.ne_of_gt (cell_lt hHeld.2.2.2.2.2.2.2.2.2.2.2.2.1)
       have hn2:=hHeld.2.2.2.2.2.2.2.2.2.2.2.2.2.2.2.size
       try (have R3:=Lib.hid (R3.out.keep nz.2))
       try (have B3:=Lib.hid (B3.out.keep nz.2))
       try (have S3:=Lib.hid (S3.out.keep nz.2))
       try (have R31:=Lib.hid (R31.out.keep nz.2))
       try (have W3:=Lib.hid (W3.out.keep nz.2))
       refine hK.out _ _ ?_ (fun hHeld=>?_)
       ·(try dsimp only);(assumption)
       clear hK K
       try simp only [Act.put,sA,sB,sC]
       refine wpAnyH_ready (rs:=[7]) (by kernel_rfl) (by simp) ?_
       refine(AllReadyH.cons (o:=⟨some 125,_,_,_,_,_⟩) rfl (fun K hK=>?_) AllReadyH.nil)
       go_simp
       try (have hzB:=cell_lt L10.1.1)
       refine(CI.out _ _ _ _ _ _ _ _ _ _ _ _ B3.out S3.out R31.out (HS0.out.keep (K17.trans hHeld.2.2.2.2.2.2.2.2.2.2.2.2.2.2.2)) (HS1.out.keep (K17.trans hHeld.2.2.2.2.2.2.2.2.2.2.2.2.2.2.2)) (HS2.out.keep (K17.trans hHeld.2.2.2.2.2.2.2.2.2.2.2.2.2.2.2))).mono ?_
       rintro e4 w4 ⟨A0',c0',rfl,o4,k4⟩
       have hS4:=keep15k k4 hHeld
       have W3:=Lib.hid o4
       have W3o:=Lib.hid o4
       try (have NB:=Lib.hid (o4.not hzB))
       try (have L10:=livS_keep k4 L10)
       go_wp2_with fail
       refine hK.out _ _ ?_ (fun hHeld=>?_)
       ·(try dsimp only);(assumption)
       clear hK K
       try simp only [Act.put,sA,sB,sC]
       refine tk 8 ⟨some 117,_,_,_,_,_⟩ ?_ rfl (by kernel_rfl) (fun _ _ _ h=>h) (by rfl) ?_ (by assumption) ?_
       rotate_left
       ·intro w hSw;(try dsimp only at hSw);go_simp;(all_goals with_reducible rfl)
       simp only [Act.put,sA,sB,sC]
       refine tk 9 ⟨some 126,_,_,_,_,_⟩ ?_ rfl (by kernel_rfl) (fun _ _ _ h=>h) (by rfl) ?_ (by assumption) ?_
       rotate_left
       ·intro w hSw;(try dsimp only at hSw);go_simp;(all_goals with_reducible rfl)
       simp only [Act.put,sA,sB,sC]
       refine tk 10 ⟨some 127,_,_,_,_,_⟩ ?_ rfl (by kernel_rfl) (fun _ _ _ h=>h) (by rfl) ?_ (by assumption) ?_
       rotate_left
       ·intro w hSw;(try dsimp only at hSw);go_simp;(all_goals with_reducible rfl)
       simp only [Act.put,sA,sB,sC]
       refine wpAnyH_ready (rs:=[12]) (by kernel_rfl) (by simp) ?_
       refine(AllReadyH.cons (o:=⟨none,_,_,_,_,_⟩) rfl (fun K hK=>?_) AllReadyH.nil)
       go_simp
       go_wp2_with fail
       refine hK.out _ _ ?_ (fun hHeld=>?_)
       ·(try dsimp only);(first | exact keep15k ((Kp.refl _).alloc _) hS4 | exact⟨by simp [go_sem, *],by simp [go_sem, *],by simp [go_sem, *],by simp [go_sem, *],by simp [go_sem, *],by simp [go_sem, *],by simp [go_sem, *],by simp [go_sem, *],by simp [go_sem, *],by simp [go_sem, *],by simp [go_sem, *],by simp [go_sem, *],by simp [go_sem, *],by simp [go_sem, *],by simp [go_sem, *],((hHeld.2.2.2.2.2.2.2.2.2.2.2.2.2.2.2.setCell (by first | omega | (simp;omega)) _).setCell (by first | omega | (simp;omega)) _).setCell (by first | omega | (simp;omega)) _⟩)
       clear hK K
       try simp only [Act.put,sA,sB,sC]
       refine tk 13 ⟨some 21,_,_,_,_,_⟩ ?_ rfl (by kernel_rfl) (fun _ _ _ h=>h) (by rfl) ?_ (by assumption) ?_
       rotate_left
       ·intro w hSw;(try dsimp only at hSw);go_simp;(all_goals with_reducible rfl)
       simp only [Act.put,sA,sB,sC]
       refine wpAnyH_done (by kernel_rfl) ?_ _
       go_wp2_with fail
       go_meet
       exact⟨_,A0',c0',rfl,rfl,⟨by first | (simp [go_sem];done) | simp [go_sem, *],by first | (simp [go_sem];done) | simp [go_sem, *],by first | (simp [go_sem];done) | simp [go_sem, *]⟩,StaAt.mk (by first | exact(W3o.out.keep ((Kp.refl _).alloc _)).rd | exact(((W3.out.far NB.out _).far NB.out _).far NB.out _).rd) (by rw [HNL.out];exact hn6) HIL.out,hHeld.2.2.2.2.2.2.2.2.2.2.2.2.2.2.2⟩
     ·go_simp
      go_wp2_with fail
      have nz:=liv_new hHeld
      have L10:=nz.1
      have hSa:=keep15k nz.2 hHeld
      have hn0:=Nat.ne_of_gt (cell_lt hHeld.1)
      have hn1:=Nat.ne_of_gt (cell_lt hHeld.2.2.2.2.2.2.2.2.2.2.2.2.1)
      have hn2:=hHeld.2.2.2.2.2.2.2.2.2.2.2.2.2.2.2.size
      try (have R3:=Lib.hid (R3.out.keep nz.2))
      try (have B3:=Lib.hid (B3.out.keep nz.2))
      try (have S3:=Lib.hid (S3.out.keep nz.2))
      try (have R31:=Lib.hid (R31.out.keep nz.2))
      try (have W3:=Lib.hid (W3.out.keep nz.2))
      refine hK.out _ _ ?_ (fun hHeld=>?_)
      ·(try dsimp only);(assumption)
      clear hK K
      try simp only [Act.put,sA,sB,sC]
      refine wpAnyH_ready (rs:=[6]) (by kernel_rfl) (by simp) ?_
      refine(AllReadyH.cons (o:=⟨some 124,_,_,_,_,_⟩) rfl (fun K hK=>?_) AllReadyH.nil)
      go_simp
      refine(CT.out _ _ (HP.out.keep (K17.trans hHeld.2.2.2.2.2.2.2.2.2.2.2.2.2.2.2))).mono ?_
      rintro e31 w31 ⟨x31,rfl,o31,k31⟩
      have hS31:=keep15k k31 hHeld
      have R31:=Lib.hid o31.rd
      have B3:=Lib.hid (B3.out.keep k31)
      have S3:=Lib.hid (S3.out.keep k31)
      try (have L10:=livS_keep k31 L10)
      go_wp2_with fail
      refine hK.out _ _ ?_ (fun hHeld=>?_)
      ·(try dsimp only);(assumption)
      clear hK K
      try simp only [Act.put,sA,sB,sC]
      refine wpAnyH_ready (rs:=[7]) (by kernel_rfl) (by simp) ?_
      refine(AllReadyH.cons (o:=⟨some 125,_,_,_,_,_⟩) rfl (fun K hK=>?_) AllReadyH.nil)
      go_simp
      try (have hzB:=cell_lt L10.1.1)
      refine(CI.out _ _ _ _ _ _ _ _ _ _ _ _ B3.out S3.out R31.out (HS0.out.keep (K17.trans hHeld.2.2.2.2.2.2.2.2.2.2.2.2.2.2.2)) (HS1.out.keep (K17.trans hHeld.2.2.2.2.2.2.2.2.2.2.2.2.2.2.2)) (HS2.out.keep (K17.trans hHeld.2.2.2.2.2.2.2.2.2.2.2.2.2.2.2))).mono ?_
      rintro e4 w4 ⟨A0',c0',rfl,o4,k4⟩
      have hS4:=keep15k k4 hHeld
      have W3:=Lib.hid o4
      have W3o:=Lib.hid o4
      try (have NB:=Lib.hid (o4.not hzB))
      try (have L10:=livS_keep k4 L10)
      go_wp2_with fail
      refine hK.out _ _ ?_ (fun hHeld=>?_)
      ·(try dsimp only);(assumption)
      clear hK K
      try simp only [Act.put,sA,sB,sC]
      refine tk 8 ⟨some 117,_,_,_,_,_⟩ ?_ rfl (by kernel_rfl) (fun _ _ _ h=>h) (by rfl) ?_ (by assumption) ?_
      rotate_left
      ·intro w hSw;(try dsimp only at hSw);go_simp;(all_goals with_reducible rfl)
      simp only [Act.put,sA,sB,sC]
      refine tk 9 ⟨some 126,_,_,_,_,_⟩ ?_ rfl (by kernel_rfl) (fun _ _ _ h=>h) (by rfl) ?_ (by assumption) ?_
      rotate_left
      ·intro w hSw;(try dsimp only at hSw);go_simp;(all_goals with_reducible rfl)
      simp only [Act.put,sA,sB,sC]
      refine tk 10 ⟨some 127,_,_,_,_,_⟩ ?_ rfl (by kernel_rfl) (fun _ _ _ h=>h) (by rfl) ?_ (by assumption) ?_
      rotate_left
      ·intro w hSw;(try dsimp only at hSw);go_simp;(all_goals with_reducible rfl)
      simp only [Act.put,sA,sB,sC]
      refine wpAnyH_ready (rs:=[12]) (by kernel_rfl) (by simp) ?_
      refine(AllReadyH.cons (o:=⟨none,_,_,_,_,_⟩) rfl (fun K hK=>?_) AllReadyH.nil)
      go_simp
      go_wp2_with fail
      refine hK.out _ _ ?_ (fun hHeld=>?_)
      ·(try dsimp only);(first | exact keep15k ((Kp.refl _).alloc _) hS4 | exact⟨by simp [go_sem, *],by simp [go_sem, *],by simp [go_sem, *],by simp [go_sem, *],by simp [go_sem, *],by simp [go_sem, *],by simp [go_sem, *],by simp [go_sem, *],by simp [go_sem, *],by simp [go_sem, *],by simp [go_sem, *],by simp [go_sem, *],by simp [go_sem, *],by simp [go_sem, *],by simp [go_sem, *],((hHeld.2.2.2.2.2.2.2.2.2.2.2.2.2.2.2.setCell (by first | omega | (simp;omega)) _).setCell (by first | omega | (simp;omega)) _).setCell (by first | omega | (simp;omega)) _⟩)
      clear hK K
      try simp only [Act.put,sA,sB,sC]
      refine tk 13 ⟨some 21,_,_,_,_,_⟩ ?_ rfl (by kernel_rfl) (fun _ _ _ h=>h) (by rfl) ?_ (by assumption) ?_
      rotate_left
      ·intro w hSw;(try dsimp only at hSw);go_simp;(all_goals with_reducible rfl)
      simp only [Act.put,sA,sB,sC]
      refine wpAnyH_done (by kernel_rfl) ?_ _
      go_wp2_with fail
      go_meet
      exact⟨_,A0',c0',rfl,rfl,⟨by first | (simp [go_sem];done) | simp [go_sem, *],by first | (simp [go_sem];done) | simp [go_sem, *],by first | (simp [go_sem];done) | simp [go_sem, *]⟩,StaAt.mk (by first | exact(W3o.out.keep ((Kp.refl _).alloc _)).rd | exact(((W3.out.far NB.out _).far NB.out _).far NB.out _).rd) (by rw [HNL.out];exact hn6) HIL.out,hHeld.2.2.2.2.2.2.2.2.2.2.2.2.2.2.2⟩
    ·go_simp
     go_wp2_with fail
     have nz:=liv_new hHeld
     have L10:=nz.1
     have hSa:=keep15k nz.2 hHeld
     have hn0:=Nat.ne_of_gt (cell_lt hHeld.1)
     have hn1:=Nat.ne_of_gt (cell_lt hHeld.2.2.2.2.2.2.2.2.2.2.2.2.1)
     have hn2:=hHeld.2.2.2.2.2.2.2.2.2.2.2.2.2.2.2.size
     try (have R3:=Lib.hid (R3.out.keep nz.2))
     try (have B3:=Lib.hid (B3.out.keep nz.2))
     try (have S3:=Lib.hid (S3.out.keep nz.2))
     try (have R31:=Lib.hid (R31.out.keep nz.2))
     try (have W3:=Lib.hid (W3.out.keep nz.2))
     refine hK.out _ _ ?_ (fun hHeld=>?_)
     ·(try dsimp only);(assumption)
     clear hK K
     try simp only [Act.put,sA,sB,sC]
     refine wpAnyH_ready (rs:=[3]) (by kernel_rfl) (by simp) ?_
     refine(AllReadyH.cons (o:=⟨some 121,_,_,_,_,_⟩) rfl (fun K hK=>?_) AllReadyH.nil)
     go_simp
     refine(toState_any T Z _ us mu _ (LA.out.keep (K17.trans hHeld.2.2.2.2.2.2.2.2.2.2.2.2.2.2.2)) HE4.out).mono ?_
     rintro e3' w3' ⟨gua,rfl,o3',k3'⟩
     have hS3':=keep15k k3' hHeld
     have B3:=Lib.hid (R3.out.keep k3')
     have S3:=Lib.hid (o3'.sta LA.out)
     try (have L10:=livS_keep k3' L10)
     go_wp2_with fail
     refine hK.out _ _ ?_ (fun hHeld=>?_)
     ·(try dsimp only);(assumption)
     clear hK K
     try simp only [Act.put,sA,sB,sC]
     refine wpAnyH_ready (rs:=[6]) (by kernel_rfl) (by simp) ?_
     refine(AllReadyH.cons (o:=⟨some 124,_,_,_,_,_⟩) rfl (fun K hK=>?_) AllReadyH.nil)
     go_simp
     refine(CT.out _ _ (HP.out.keep (K17.trans hHeld.2.2.2.2.2.2.2.2.2.2.2.2.2.2.2))).mono ?_
     rintro e31 w31 ⟨x31,rfl,o31,k31⟩
     have hS31:=keep15k k31 hHeld
     have R31:=Lib.hid o31.rd
     have B3:=Lib.hid (B3.out.keep k31)
     have S3:=Lib.hid (S3.out.keep k31)
     try (have L10:=livS_keep k31 L10)
     go_wp2_with fail
     refine hK.out _ _ ?_ (fun hHeld=>?_)
     ·(try dsimp only);(assumption)
     clear hK K
     try simp only [Act.put,sA,sB,sC]
     refine wpAnyH_ready (rs:=[7]) (by kernel_rfl) (by simp) ?_
     refine(AllReadyH.cons (o:=⟨some 125,_,_,_,_,_⟩) rfl (fun K hK=>?_) AllReadyH.nil)
     go_simp
     try (have hzB:=cell_lt L10.1.1)
     refine(CI.out _ _ _ _ _ _ _ _ _ _ _ _ B3.out S3.out R31.out (HS0.out.keep (K17.trans hHeld.2.2.2.2.2.2.2.2.2.2.2.2.2.2.2)) (HS1.out.keep (K17.trans hHeld.2.2.2.2.2.2.2.2.2.2.2.2.2.2.2)) (HS2.out.keep (K17.trans hHeld.2.2.2.2.2.2.2.2.2.2.2.2.2.2.2))).mono ?_
     rintro e4 w4 ⟨A0',c0',rfl,o4,k4⟩
     have hS4:=keep15k k4 hHeld
     have W3:=Lib.hid o4
     have W3o:=Lib.hid o4
     try (have NB:=Lib.hid (o4.not hzB))
     try (have L10:=livS_keep k4 L10)
     go_wp2_with fail
     refine hK.out _ _ ?_ (fun hHeld=>?_)
     ·(try dsimp only);(assumption)
     clear hK K
     try simp only [Act.put,sA,sB,sC]
     refine tk 8 ⟨some 117,_,_,_,_,_⟩ ?_ rfl (by kernel_rfl) (fun _ _ _ h=>h) (by rfl) ?_ (by assumption) ?_
     rotate_left
     ·intro w hSw;(try dsimp only at hSw);go_simp;(all_goals with_reducible rfl)
     simp only [Act.put,sA,sB,sC]
     refine tk 9 ⟨some 126,_,_,_,_,_⟩ ?_ rfl (by kernel_rfl) (fun _ _ _ h=>h) (by rfl) ?_ (by assumption) ?_
     rotate_left
     ·intro w hSw;(try dsimp only at hSw);go_simp;(all_goals with_reducible rfl)
     simp only [Act.put,sA,sB,sC]
     refine tk 10 ⟨some 127,_,_,_,_,_⟩ ?_ rfl (by kernel_rfl) (fun _ _ _ h=>h) (by rfl) ?_ (by assumption) ?_
     rotate_left
     ·intro w hSw;(try dsimp only at hSw);go_simp;(all_goals with_reducible rfl)
     simp only [Act.put,sA,sB,sC]
     refine wpAnyH_ready (rs:=[12]) (by kernel_rfl) (by simp) ?_
     refine(AllReadyH.cons (o:=⟨none,_,_,_,_,_⟩) rfl (fun K hK=>?_) AllReadyH.nil)
     go_simp
     go_wp2_with fail
     refine hK.out _ _ ?_ (fun hHeld=>?_)
     ·(try dsimp only);(first | exact keep15k ((Kp.refl _).alloc _) hS4 | exact⟨by simp [go_sem, *],by simp [go_sem, *],by simp [go_sem, *],by simp [go_sem, *],by simp [go_sem, *],by simp [go_sem, *],by simp [go_sem, *],by simp [go_sem, *],by simp [go_sem, *],by simp [go_sem, *],by simp [go_sem, *],by simp [go_sem, *],by simp [go_sem, *],by simp [go_sem, *],by simp [go_sem, *],((hHeld.2.2.2.2.2.2.2.2.2.2.2.2.2.2.2.setCell (by first | omega | (simp;omega)) _).setCell (by first | omega | (simp;omega)) _).setCell (by first | omega | (simp;omega)) _⟩)
     clear hK K
     try simp only [Act.put,sA,sB,sC]
     refine tk 13 ⟨some 21,_,_,_,_,_⟩ ?_ rfl (by kernel_rfl) (fun _ _ _ h=>h) (by rfl) ?_ (by assumption) ?_
     rotate_left
     ·intro w hSw;(try dsimp only at hSw);go_simp;(all_goals with_reducible rfl)
     simp only [Act.put,sA,sB,sC]
     refine wpAnyH_done (by kernel_rfl) ?_ _
     go_wp2_with fail
     go_meet
     exact⟨_,A0',c0',rfl,rfl,⟨by first | (simp [go_sem];done) | simp [go_sem, *],by first | (simp [go_sem];done) | simp [go_sem, *],by first | (simp [go_sem];done) | simp [go_sem, *]⟩,StaAt.mk (by first | exact(W3o.out.keep ((Kp.refl _).alloc _)).rd | exact(((W3.out.far NB.out _).far NB.out _).far NB.out _).rd) (by rw [HNL.out];exact hn6) HIL.out,hHeld.2.2.2.2.2.2.2.2.2.2.2.2.2.2.2⟩
   ·go_simp
    go_wp2_with fail
    have nz:=liv_new hHeld
    have L10:=nz.1
    have hSa:=keep15k nz.2 hHeld
    have hn0:=Nat.ne_of_gt (cell_lt hHeld.1)
    have hn1:=Nat.ne_of_gt (cell_lt hHeld.2.2.2.2.2.2.2.2.2.2.2.2.1)
    have hn2:=hHeld.2.2.2.2.2.2.2.2.2.2.2.2.2.2.2.size
    try (have R3:=Lib.hid (R3.out.keep nz.2))
    try (have B3:=Lib.hid (B3.out.keep nz.2))
    try (have S3:=Lib.hid (S3.out.keep nz.2))
    try (have R31:=Lib.hid (R31.out.keep nz.2))
    try (have W3:=Lib.hid (W3.out.keep nz.2))
    refine hK.out _ _ ?_ (fun hHeld=>?_)
    ·(try dsimp only);(assumption)
    clear hK K
    try simp only [Act.put,sA,sB,sC]
    refine wpAnyH_ready (rs:=[1]) (by kernel_rfl) (by simp) ?_
    refine(AllReadyH.cons (o:=⟨some 119,_,_,_,_,_⟩) rfl (fun K hK=>?_) AllReadyH.nil)
    go_simp
    refine(toBoard_any _ _ _ _ _ _ l m _ _ _ _ _ _ _ _ _ _ lt lr ld mt mr md _ (RA.out.keep (K17.trans hHeld.2.2.2.2.2.2.2.2.2.2.2.2.2.2.2)) HE1.out HE2.out HE3.out).mono ?_
    rintro e3 w3 ⟨g1a,g2a,csa,ysa,zsa,A1a,c1a,A2a,c2a,A3a,c3a,rfl,o3,k3⟩
    have hS3:=keep15k k3 hHeld
    have R3:=Lib.hid (o3.at RA.out)
    try (have L10:=livS_keep k3 L10)
    go_wp2_with fail
    refine hK.out _ _ ?_ (fun hHeld=>?_)
    ·(try dsimp only);(assumption)
    clear hK K
    try simp only [Act.put,sA,sB,sC]
    refine wpAnyH_ready (rs:=[3]) (by kernel_rfl) (by simp) ?_
    refine(AllReadyH.cons (o:=⟨some 121,_,_,_,_,_⟩) rfl (fun K hK=>?_) AllReadyH.nil)
    go_simp
    refine(toState_any T Z _ us mu _ (LA.out.keep (K17.trans hHeld.2.2.2.2.2.2.2.2.2.2.2.2.2.2.2)) HE4.out).mono ?_
    rintro e3' w3' ⟨gua,rfl,o3',k3'⟩
    have hS3':=keep15k k3' hHeld
    have B3:=Lib.hid (R3.out.keep k3')
    have S3:=Lib.hid (o3'.sta LA.out)
    try (have L10:=livS_keep k3' L10)
    go_wp2_with fail
    refine hK.out _ _ ?_ (fun hHeld=>?_)
    ·(try dsimp only);(assumption)
    clear hK K
    try simp only [Act.put,sA,sB,sC]
    refine wpAnyH_ready (rs:=[6]) (by kernel_rfl) (by simp) ?_
    refine(AllReadyH.cons (o:=⟨some 124,_,_,_,_,_⟩) rfl (fun K hK=>?_) AllReadyH.nil)
    go_simp
    refine(CT.out _ _ (HP.out.keep (K17.trans hHeld.2.2.2.2.2.2.2.2.2.2.2.2.2.2.2))).mono ?_
    rintro e31 w31 ⟨x31,rfl,o31,k31⟩
    have hS31:=keep15k k31 hHeld
    have R31:=Lib.hid o31.rd
    have B3:=Lib.hid (B3.out.keep k31)
    have S3:=Lib.hid (S3.out.keep k31)
    try (have L10:=livS_keep k31 L10)
    go_wp2_with fail
    refine hK.out _ _ ?_ (fun hHeld=>?_)
    ·(try dsimp only);(assumption)
    clear hK K
    try simp only [Act.put,sA,sB,sC]
    refine wpAnyH_ready (rs:=[7]) (by kernel_rfl) (by simp) ?_
    refine(AllReadyH.cons (o:=⟨some 125,_,_,_,_,_⟩) rfl (fun K hK=>?_) AllReadyH.nil)
    go_simp
    try (have hzB:=cell_lt L10.1.1)
    refine(CI.out _ _ _ _ _ _ _ _ _ _ _ _ B3.out S3.out R31.out (HS0.out.keep (K17.trans hHeld.2.2.2.2.2.2.2.2.2.2.2.2.2.2.2)) (HS1.out.keep (K17.trans hHeld.2.2.2.2.2.2.2.2.2.2.2.2.2.2.2)) (HS2.out.keep (K17.trans hHeld.2.2.2.2.2.2.2.2.2.2.2.2.2.2.2))).mono ?_
    rintro e4 w4 ⟨A0',c0',rfl,o4,k4⟩
    have hS4:=keep15k k4 hHeld
    have W3:=Lib.hid o4
    have W3o:=Lib.hid o4
    try (have NB:=Lib.hid (o4.not hzB))
    try (have L10:=livS_keep k4 L10)
    go_wp2_with fail
    refine hK.out _ _ ?_ (fun hHeld=>?_)
    ·(try dsimp only);(assumption)
    clear hK K
    try simp only [Act.put,sA,sB,sC]
    refine tk 8 ⟨some 117,_,_,_,_,_⟩ ?_ rfl (by kernel_rfl) (fun _ _ _ h=>h) (by rfl) ?_ (by assumption) ?_
    rotate_left
    ·intro w hSw;(try dsimp only at hSw);go_simp;(all_goals with_reducible rfl)
    simp only [Act.put,sA,sB,sC]
    refine tk 9 ⟨some 126,_,_,_,_,_⟩ ?_ rfl (by kernel_rfl) (fun _ _ _ h=>h) (by rfl) ?_ (by assumption) ?_
    rotate_left
    ·intro w hSw;(try dsimp only at hSw);go_simp;(all_goals with_reducible rfl)
    simp only [Act.put,sA,sB,sC]
    refine tk 10 ⟨some 127,_,_,_,_,_⟩ ?_ rfl (by kernel_rfl) (fun _ _ _ h=>h) (by rfl) ?_ (by assumption) ?_
    rotate_left
    ·intro w hSw;(try dsimp only at hSw);go_simp;(all_goals with_reducible rfl)
    simp only [Act.put,sA,sB,sC]
    refine wpAnyH_ready (rs:=[12]) (by kernel_rfl) (by simp) ?_
    refine(AllReadyH.cons (o:=⟨none,_,_,_,_,_⟩) rfl (fun K hK=>?_) AllReadyH.nil)
    go_simp
    go_wp2_with fail
    refine hK.out _ _ ?_ (fun hHeld=>?_)
    ·(try dsimp only);(first | exact keep15k ((Kp.refl _).alloc _) hS4 | exact⟨by simp [go_sem, *],by simp [go_sem, *],by simp [go_sem, *],by simp [go_sem, *],by simp [go_sem, *],by simp [go_sem, *],by simp [go_sem, *],by simp [go_sem, *],by simp [go_sem, *],by simp [go_sem, *],by simp [go_sem, *],by simp [go_sem, *],by simp [go_sem, *],by simp [go_sem, *],by simp [go_sem, *],((hHeld.2.2.2.2.2.2.2.2.2.2.2.2.2.2.2.setCell (by first | omega | (simp;omega)) _).setCell (by first | omega | (simp;omega)) _).setCell (by first | omega | (simp;omega)) _⟩)
    clear hK K
    try simp only [Act.put,sA,sB,sC]
    refine tk 13 ⟨some 21,_,_,_,_,_⟩ ?_ rfl (by kernel_rfl) (fun _ _ _ h=>h) (by rfl) ?_ (by assumption) ?_
    rotate_left
    ·intro w hSw;(try dsimp only at hSw);go_simp;(all_goals with_reducible rfl)
    simp only [Act.put,sA,sB,sC]
    refine wpAnyH_done (by kernel_rfl) ?_ _
    go_wp2_with fail
    go_meet
    exact⟨_,A0',c0',rfl,rfl,⟨by first | (simp [go_sem];done) | simp [go_sem, *],by first | (simp [go_sem];done) | simp [go_sem, *],by first | (simp [go_sem];done) | simp [go_sem, *]⟩,StaAt.mk (by first | exact(W3o.out.keep ((Kp.refl _).alloc _)).rd | exact(((W3.out.far NB.out _).far NB.out _).far NB.out _).rd) (by rw [HNL.out];exact hn6) HIL.out,hHeld.2.2.2.2.2.2.2.2.2.2.2.2.2.2.2⟩
  case rest =>
   obtain⟨B1,A2,c2,rfl,rfl,LB1,W1S,K18⟩:=hcut
   have h18:(ce3 wc B1 (.int .i64 X) (.int .i64 Y) (.slice A2 nL c2)):=⟨LB1.1.1,LB1.2.1.1,LB1.2.2.1⟩
   have K4h:=K4g.trans K18
   have b18:(ce3 wc B0 (.int .i64 X) (.int .i64 Y) (.slice A0 nL c0)):=⟨K4h.cell CB.out.1,K4h.cell CB.out.2.1,K4h.cell CB.out.2.2⟩
   have W1H:=Lib.hid W1S
   have g18:=Lib.hid (show (ce3 wc (w7.heap.size) (.int .i64 X) (.int .i64 Y) (.slice A1 nL c1)) from ⟨K18.cell g17.out.1,K18.cell g17.out.2.1,K18.cell g17.out.2.2⟩)
   have OM3:=Lib.hid (ownsRow_keep OM2.out K18)
   have K18w:=K17.trans K18
   clear LB1 W1S K18 OM2 g17 s17d
   go_wp2_with fail
   refine(eqState_same X Y _ _ LL _ W1H.out (WS.out.keep K4h)).mono ?_
   rintro e19 w19 ⟨rfl,k19⟩
   have g19:(ce3 w19 (w7.heap.size) (.int .i64 X) (.int .i64 Y) (.slice A1 nL c1)):=⟨k19.cell g18.out.1,k19.cell g18.out.2.1,k19.cell g18.out.2.2⟩
   have OM4:=Lib.hid (ownsRow_keep OM3.out k19)
   have Kx:=K18w.trans k19
   clear h18 b18 W1H OM3 K4h g18 k19
   go_wp2_with fail
   refine(heldState_own X Y _ nL w61.heap.size 1 _ (by omega) (by omega) hn6 OM4.out).mono ?_
   rintro e20 w20 ⟨rfl,k20⟩
   go_wp2_with fail
   go_ret
   exact⟨rfl,Kx.trans k20⟩
end Go.Proofs.YtacgknllagdkoaaGreatDoor.loseUnsuppliedLaw
