/-
 The fault of an order, as the program's commander tells it. Nothing that was there is changed. The named variables hold what the program's text lays.
-/
import Derived.Test.YtacgknllagdkoaaGreatDoorOrW
import Derived.StillTailTactics
import Derived.Deep.Cut
import Derived.Maps.AppendAt
import Derived.Test.YtacgknllagdkoaaGreatDoorQa
import Derived.Test.YtacgknllagdkoaaGreatDoorQa
namespace Go.Proofs.YtacgknllagdkoaaGreatDoor
open Go.RowKit
/-- The program's five faults, as its text lays them. -/
structure Errs (w:World) (a1 a2 a3 a4 a5:Addr):Prop where
 c1:w.cell? ⟨1,0,none⟩=some (.iface 325 (.pointer (some a1)))
 c2:w.cell? ⟨2,0,none⟩=some (.iface 325 (.pointer (some a2)))
 c3:w.cell? ⟨3,0,none⟩=some (.iface 325 (.pointer (some a3)))
 c4:w.cell? ⟨4,0,none⟩=some (.iface 325 (.pointer (some a4)))
 c5:w.cell? ⟨5,0,none⟩=some (.iface 325 (.pointer (some a5)))
theorem Errs.keep {w w':World} {a1 a2 a3 a4 a5:Addr} (h:Errs w a1 a2 a3 a4 a5) (k:Kp w w'):Errs w' a1 a2 a3 a4 a5:=⟨k.cell h.c1,k.cell h.c2,k.cell h.c3,k.cell h.c4,k.cell h.c5⟩
/-- The fault of a code. -/
def errV (a1 a2 a3 a4 a5:Addr) (c:Int):Value :=
 if c=1 then .iface 325 (.pointer (some a1)) else if c=2 then .iface 325 (.pointer (some a2)) else if c=3 then .iface 325 (.pointer (some a3)) else if c=4 then .iface 325 (.pointer (some a4)) else if c=5 then .iface 325 (.pointer (some a5)) else .nilIface
theorem errV_0 (a1 a2 a3 a4 a5:Addr):errV a1 a2 a3 a4 a5 0=.nilIface:=rfl
theorem errV_1 (a1 a2 a3 a4 a5:Addr):errV a1 a2 a3 a4 a5 1=.iface 325 (.pointer (some a1)):=rfl
theorem errV_2 (a1 a2 a3 a4 a5:Addr):errV a1 a2 a3 a4 a5 2=.iface 325 (.pointer (some a2)):=rfl
theorem errV_3 (a1 a2 a3 a4 a5:Addr):errV a1 a2 a3 a4 a5 3=.iface 325 (.pointer (some a3)):=rfl
theorem errV_4 (a1 a2 a3 a4 a5:Addr):errV a1 a2 a3 a4 a5 4=.iface 325 (.pointer (some a4)):=rfl
theorem errV_5 (a1 a2 a3 a4 a5:Addr):errV a1 a2 a3 a4 a5 5=.iface 325 (.pointer (some a5)):=rfl
theorem keepd24 {W0 w w1:World} {p0 p1 p2 p3 p4 p5 p6 p7 p8 p9 p10 p11 p12 p13 p14 p15 p16 p17 p18 p19 p20 p21 p22 p23:Addr} {v0 v1 v2 v3 v4 v5 v6 v7 v8 v9 v10 v11 v12 v13 v14 v15 v16 v17 v18 v19 v20 v21 v22 v23:Value} (k:Kp w w1) (h:w.cell? p0=some v0∧w.cell? p1=some v1∧w.cell? p2=some v2∧w.cell? p3=some v3∧w.cell? p4=some v4∧w.cell? p5=some v5∧w.cell? p6=some v6∧w.cell? p7=some v7∧w.cell? p8=some v8∧w.cell? p9=some v9∧w.cell? p10=some v10∧w.cell? p11=some v11∧w.cell? p12=some v12∧w.cell? p13=some v13∧w.cell? p14=some v14∧w.cell? p15=some v15∧w.cell? p16=some v16∧w.cell? p17=some v17∧w.cell? p18=some v18∧w.cell? p19=some v19∧w.cell? p20=some v20∧w.cell? p21=some v21∧w.cell? p22=some v22∧w.cell? p23=some v23∧Kp W0 w):w1.cell? p0=some v0∧w1.cell? p1=some v1∧w1.cell? p2=some v2∧w1.cell? p3=some v3∧w1.cell? p4=some v4∧w1.cell? p5=some v5∧w1.cell? p6=some v6∧w1.cell? p7=some v7∧w1.cell? p8=some v8∧w1.cell? p9=some v9∧w1.cell? p10=some v10∧w1.cell? p11=some v11∧w1.cell? p12=some v12∧w1.cell? p13=some v13∧w1.cell? p14=some v14∧w1.cell? p15=some v15∧w1.cell? p16=some v16∧w1.cell? p17=some v17∧w1.cell? p18=some v18∧w1.cell? p19=some v19∧w1.cell? p20=some v20∧w1.cell? p21=some v21∧w1.cell? p22=some v22∧w1.cell? p23=some v23∧Kp W0 w1 :=
 ⟨k.cell h.1,k.cell h.2.1,k.cell h.2.2.1,k.cell h.2.2.2.1,k.cell h.2.2.2.2.1,k.cell h.2.2.2.2.2.1,k.cell h.2.2.2.2.2.2.1,k.cell h.2.2.2.2.2.2.2.1,k.cell h.2.2.2.2.2.2.2.2.1,k.cell h.2.2.2.2.2.2.2.2.2.1,k.cell h.2.2.2.2.2.2.2.2.2.2.1,k.cell h.2.2.2.2.2.2.2.2.2.2.2.1,k.cell h.2.2.2.2.2.2.2.2.2.2.2.2.1,k.cell h.2.2.2.2.2.2.2.2.2.2.2.2.2.1,k.cell h.2.2.2.2.2.2.2.2.2.2.2.2.2.2.1,k.cell h.2.2.2.2.2.2.2.2.2.2.2.2.2.2.2.1,k.cell h.2.2.2.2.2.2.2.2.2.2.2.2.2.2.2.2.1,k.cell h.2.2.2.2.2.2.2.2.2.2.2.2.2.2.2.2.2.1,k.cell h.2.2.2.2.2.2.2.2.2.2.2.2.2.2.2.2.2.2.1,k.cell h.2.2.2.2.2.2.2.2.2.2.2.2.2.2.2.2.2.2.2.1,k.cell h.2.2.2.2.2.2.2.2.2.2.2.2.2.2.2.2.2.2.2.2.1,k.cell h.2.2.2.2.2.2.2.2.2.2.2.2.2.2.2.2.2.2.2.2.2.1,k.cell h.2.2.2.2.2.2.2.2.2.2.2.2.2.2.2.2.2.2.2.2.2.2.1,k.cell h.2.2.2.2.2.2.2.2.2.2.2.2.2.2.2.2.2.2.2.2.2.2.2.1,h.2.2.2.2.2.2.2.2.2.2.2.2.2.2.2.2.2.2.2.2.2.2.2.2.trans k⟩
theorem keepd29 {W0 w w1:World} {p0 p1 p2 p3 p4 p5 p6 p7 p8 p9 p10 p11 p12 p13 p14 p15 p16 p17 p18 p19 p20 p21 p22 p23 p24 p25 p26 p27 p28:Addr} {v0 v1 v2 v3 v4 v5 v6 v7 v8 v9 v10 v11 v12 v13 v14 v15 v16 v17 v18 v19 v20 v21 v22 v23 v24 v25 v26 v27 v28:Value} (k:Kp w w1) (h:w.cell? p0=some v0∧w.cell? p1=some v1∧w.cell? p2=some v2∧w.cell? p3=some v3∧w.cell? p4=some v4∧w.cell? p5=some v5∧w.cell? p6=some v6∧w.cell? p7=some v7∧w.cell? p8=some v8∧w.cell? p9=some v9∧w.cell? p10=some v10∧w.cell? p11=some v11∧w.cell? p12=some v12∧w.cell? p13=some v13∧w.cell? p14=some v14∧w.cell? p15=some v15∧w.cell? p16=some v16∧w.cell? p17=some v17∧w.cell? p18=some v18∧w.cell? p19=some v19∧w.cell? p20=some v20∧w.cell? p21=some v21∧w.cell? p22=some v22∧w.cell? p23=some v23∧w.cell? p24=some v24∧w.cell? p25=some v25∧w.cell? p26=some v26∧w.cell? p27=some v27∧w.cell? p28=some v28∧Kp W0 w):w1.cell? p0=some v0∧w1.cell? p1=some v1∧w1.cell? p2=some v2∧w1.cell? p3=some v3∧w1.cell? p4=some v4∧w1.cell? p5=some v5∧w1.cell? p6=some v6∧w1.cell? p7=some v7∧w1.cell? p8=some v8∧w1.cell? p9=some v9∧w1.cell? p10=some v10∧w1.cell? p11=some v11∧w1.cell? p12=some v12∧w1.cell? p13=some v13∧w1.cell? p14=some v14∧w1.cell? p15=some v15∧w1.cell? p16=some v16∧w1.cell? p17=some v17∧w1.cell? p18=some v18∧w1.cell? p19=some v19∧w1.cell? p20=some v20∧w1.cell? p21=some v21∧w1.cell? p22=some v22∧w1.cell? p23=some v23∧w1.cell? p24=some v24∧w1.cell? p25=some v25∧w1.cell? p26=some v26∧w1.cell? p27=some v27∧w1.cell? p28=some v28∧Kp W0 w1 :=
 ⟨k.cell h.1,k.cell h.2.1,k.cell h.2.2.1,k.cell h.2.2.2.1,k.cell h.2.2.2.2.1,k.cell h.2.2.2.2.2.1,k.cell h.2.2.2.2.2.2.1,k.cell h.2.2.2.2.2.2.2.1,k.cell h.2.2.2.2.2.2.2.2.1,k.cell h.2.2.2.2.2.2.2.2.2.1,k.cell h.2.2.2.2.2.2.2.2.2.2.1,k.cell h.2.2.2.2.2.2.2.2.2.2.2.1,k.cell h.2.2.2.2.2.2.2.2.2.2.2.2.1,k.cell h.2.2.2.2.2.2.2.2.2.2.2.2.2.1,k.cell h.2.2.2.2.2.2.2.2.2.2.2.2.2.2.1,k.cell h.2.2.2.2.2.2.2.2.2.2.2.2.2.2.2.1,k.cell h.2.2.2.2.2.2.2.2.2.2.2.2.2.2.2.2.1,k.cell h.2.2.2.2.2.2.2.2.2.2.2.2.2.2.2.2.2.1,k.cell h.2.2.2.2.2.2.2.2.2.2.2.2.2.2.2.2.2.2.1,k.cell h.2.2.2.2.2.2.2.2.2.2.2.2.2.2.2.2.2.2.2.1,k.cell h.2.2.2.2.2.2.2.2.2.2.2.2.2.2.2.2.2.2.2.2.1,k.cell h.2.2.2.2.2.2.2.2.2.2.2.2.2.2.2.2.2.2.2.2.2.1,k.cell h.2.2.2.2.2.2.2.2.2.2.2.2.2.2.2.2.2.2.2.2.2.2.1,k.cell h.2.2.2.2.2.2.2.2.2.2.2.2.2.2.2.2.2.2.2.2.2.2.2.1,k.cell h.2.2.2.2.2.2.2.2.2.2.2.2.2.2.2.2.2.2.2.2.2.2.2.2.1,k.cell h.2.2.2.2.2.2.2.2.2.2.2.2.2.2.2.2.2.2.2.2.2.2.2.2.2.1,k.cell h.2.2.2.2.2.2.2.2.2.2.2.2.2.2.2.2.2.2.2.2.2.2.2.2.2.2.1,k.cell h.2.2.2.2.2.2.2.2.2.2.2.2.2.2.2.2.2.2.2.2.2.2.2.2.2.2.2.1,k.cell h.2.2.2.2.2.2.2.2.2.2.2.2.2.2.2.2.2.2.2.2.2.2.2.2.2.2.2.2.1,h.2.2.2.2.2.2.2.2.2.2.2.2.2.2.2.2.2.2.2.2.2.2.2.2.2.2.2.2.2.trans k⟩
theorem keepd33 {W0 w w1:World} {p0 p1 p2 p3 p4 p5 p6 p7 p8 p9 p10 p11 p12 p13 p14 p15 p16 p17 p18 p19 p20 p21 p22 p23 p24 p25 p26 p27 p28 p29 p30 p31 p32:Addr} {v0 v1 v2 v3 v4 v5 v6 v7 v8 v9 v10 v11 v12 v13 v14 v15 v16 v17 v18 v19 v20 v21 v22 v23 v24 v25 v26 v27 v28 v29 v30 v31 v32:Value} (k:Kp w w1) (h:w.cell? p0=some v0∧w.cell? p1=some v1∧w.cell? p2=some v2∧w.cell? p3=some v3∧w.cell? p4=some v4∧w.cell? p5=some v5∧w.cell? p6=some v6∧w.cell? p7=some v7∧w.cell? p8=some v8∧w.cell? p9=some v9∧w.cell? p10=some v10∧w.cell? p11=some v11∧w.cell? p12=some v12∧w.cell? p13=some v13∧w.cell? p14=some v14∧w.cell? p15=some v15∧w.cell? p16=some v16∧w.cell? p17=some v17∧w.cell? p18=some v18∧w.cell? p19=some v19∧w.cell? p20=some v20∧w.cell? p21=some v21∧w.cell? p22=some v22∧w.cell? p23=some v23∧w.cell? p24=some v24∧w.cell? p25=some v25∧w.cell? p26=some v26∧w.cell? p27=some v27∧w.cell? p28=some v28∧w.cell? p29=some v29∧w.cell? p30=some v30∧w.cell? p31=some v31∧w.cell? p32=some v32∧Kp W0 w):w1.cell? p0=some v0∧w1.cell? p1=some v1∧w1.cell? p2=some v2∧w1.cell? p3=some v3∧w1.cell? p4=some v4∧w1.cell? p5=some v5∧w1.cell? p6=some v6∧w1.cell? p7=some v7∧w1.cell? p8=some v8∧w1.cell? p9=some v9∧w1.cell? p10=some v10∧w1.cell? p11=some v11∧w1.cell? p12=some v12∧w1.cell? p13=some v13∧w1.cell? p14=some v14∧w1.cell? p15=some v15∧w1.cell? p16=some v16∧w1.cell? p17=some v17∧w1.cell? p18=some v18∧w1.cell? p19=some v19∧w1.cell? p20=some v20∧w1.cell? p21=some v21∧w1.cell? p22=some v22∧w1.cell? p23=some v23∧w1.cell? p24=some v24∧w1.cell? p25=some v25∧w1.cell? p26=some v26∧w1.cell? p27=some v27∧w1.cell? p28=some v28∧w1.cell? p29=some v29∧w1.cell? p30=some v30∧w1.cell? p31=some v31∧w1.cell? p32=some v32∧Kp W0 w1 :=
 ⟨k.cell h.1,k.cell h.2.1,k.cell h.2.2.1,k.cell h.2.2.2.1,k.cell h.2.2.2.2.1,k.cell h.2.2.2.2.2.1,k.cell h.2.2.2.2.2.2.1,k.cell h.2.2.2.2.2.2.2.1,k.cell h.2.2.2.2.2.2.2.2.1,k.cell h.2.2.2.2.2.2.2.2.2.1,k.cell h.2.2.2.2.2.2.2.2.2.2.1,k.cell h.2.2.2.2.2.2.2.2.2.2.2.1,k.cell h.2.2.2.2.2.2.2.2.2.2.2.2.1,k.cell h.2.2.2.2.2.2.2.2.2.2.2.2.2.1,k.cell h.2.2.2.2.2.2.2.2.2.2.2.2.2.2.1,k.cell h.2.2.2.2.2.2.2.2.2.2.2.2.2.2.2.1,k.cell h.2.2.2.2.2.2.2.2.2.2.2.2.2.2.2.2.1,k.cell h.2.2.2.2.2.2.2.2.2.2.2.2.2.2.2.2.2.1,k.cell h.2.2.2.2.2.2.2.2.2.2.2.2.2.2.2.2.2.2.1,k.cell h.2.2.2.2.2.2.2.2.2.2.2.2.2.2.2.2.2.2.2.1,k.cell h.2.2.2.2.2.2.2.2.2.2.2.2.2.2.2.2.2.2.2.2.1,k.cell h.2.2.2.2.2.2.2.2.2.2.2.2.2.2.2.2.2.2.2.2.2.1,k.cell h.2.2.2.2.2.2.2.2.2.2.2.2.2.2.2.2.2.2.2.2.2.2.1,k.cell h.2.2.2.2.2.2.2.2.2.2.2.2.2.2.2.2.2.2.2.2.2.2.2.1,k.cell h.2.2.2.2.2.2.2.2.2.2.2.2.2.2.2.2.2.2.2.2.2.2.2.2.1,k.cell h.2.2.2.2.2.2.2.2.2.2.2.2.2.2.2.2.2.2.2.2.2.2.2.2.2.1,k.cell h.2.2.2.2.2.2.2.2.2.2.2.2.2.2.2.2.2.2.2.2.2.2.2.2.2.2.1,k.cell h.2.2.2.2.2.2.2.2.2.2.2.2.2.2.2.2.2.2.2.2.2.2.2.2.2.2.2.1,k.cell h.2.2.2.2.2.2.2.2.2.2.2.2.2.2.2.2.2.2.2.2.2.2.2.2.2.2.2.2.1,k.cell h.2.2.2.2.2.2.2.2.2.2.2.2.2.2.2.2.2.2.2.2.2.2.2.2.2.2.2.2.2.1,k.cell h.2.2.2.2.2.2.2.2.2.2.2.2.2.2.2.2.2.2.2.2.2.2.2.2.2.2.2.2.2.2.1,k.cell h.2.2.2.2.2.2.2.2.2.2.2.2.2.2.2.2.2.2.2.2.2.2.2.2.2.2.2.2.2.2.2.1,k.cell h.2.2.2.2.2.2.2.2.2.2.2.2.2.2.2.2.2.2.2.2.2.2.2.2.2.2.2.2.2.2.2.2.1,h.2.2.2.2.2.2.2.2.2.2.2.2.2.2.2.2.2.2.2.2.2.2.2.2.2.2.2.2.2.2.2.2.2.trans k⟩
theorem drewd33 {W0 w:World} {p0 p1 p2 p3 p4 p5 p6 p7 p8 p9 p10 p11 p12 p13 p14 p15 p16 p17 p18 p19 p20 p21 p22 p23 p24 p25 p26 p27 p28 p29 p30 p31 p32:Addr} {v0 v1 v2 v3 v4 v5 v6 v7 v8 v9 v10 v11 v12 v13 v14 v15 v16 v17 v18 v19 v20 v21 v22 v23 v24 v25 v26 v27 v28 v29 v30 v31 v32:Value} (h:w.cell? p0=some v0∧w.cell? p1=some v1∧w.cell? p2=some v2∧w.cell? p3=some v3∧w.cell? p4=some v4∧w.cell? p5=some v5∧w.cell? p6=some v6∧w.cell? p7=some v7∧w.cell? p8=some v8∧w.cell? p9=some v9∧w.cell? p10=some v10∧w.cell? p11=some v11∧w.cell? p12=some v12∧w.cell? p13=some v13∧w.cell? p14=some v14∧w.cell? p15=some v15∧w.cell? p16=some v16∧w.cell? p17=some v17∧w.cell? p18=some v18∧w.cell? p19=some v19∧w.cell? p20=some v20∧w.cell? p21=some v21∧w.cell? p22=some v22∧w.cell? p23=some v23∧w.cell? p24=some v24∧w.cell? p25=some v25∧w.cell? p26=some v26∧w.cell? p27=some v27∧w.cell? p28=some v28∧w.cell? p29=some v29∧w.cell? p30=some v30∧w.cell? p31=some v31∧w.cell? p32=some v32∧Kp W0 w):w.drew.cell? p0=some v0∧w.drew.cell? p1=some v1∧w.drew.cell? p2=some v2∧w.drew.cell? p3=some v3∧w.drew.cell? p4=some v4∧w.drew.cell? p5=some v5∧w.drew.cell? p6=some v6∧w.drew.cell? p7=some v7∧w.drew.cell? p8=some v8∧w.drew.cell? p9=some v9∧w.drew.cell? p10=some v10∧w.drew.cell? p11=some v11∧w.drew.cell? p12=some v12∧w.drew.cell? p13=some v13∧w.drew.cell? p14=some v14∧w.drew.cell? p15=some v15∧w.drew.cell? p16=some v16∧w.drew.cell? p17=some v17∧w.drew.cell? p18=some v18∧w.drew.cell? p19=some v19∧w.drew.cell? p20=some v20∧w.drew.cell? p21=some v21∧w.drew.cell? p22=some v22∧w.drew.cell? p23=some v23∧w.drew.cell? p24=some v24∧w.drew.cell? p25=some v25∧w.drew.cell? p26=some v26∧w.drew.cell? p27=some v27∧w.drew.cell? p28=some v28∧w.drew.cell? p29=some v29∧w.drew.cell? p30=some v30∧w.drew.cell? p31=some v31∧w.drew.cell? p32=some v32∧Kp W0 w.drew :=
 ⟨h.1,h.2.1,h.2.2.1,h.2.2.2.1,h.2.2.2.2.1,h.2.2.2.2.2.1,h.2.2.2.2.2.2.1,h.2.2.2.2.2.2.2.1,h.2.2.2.2.2.2.2.2.1,h.2.2.2.2.2.2.2.2.2.1,h.2.2.2.2.2.2.2.2.2.2.1,h.2.2.2.2.2.2.2.2.2.2.2.1,h.2.2.2.2.2.2.2.2.2.2.2.2.1,h.2.2.2.2.2.2.2.2.2.2.2.2.2.1,h.2.2.2.2.2.2.2.2.2.2.2.2.2.2.1,h.2.2.2.2.2.2.2.2.2.2.2.2.2.2.2.1,h.2.2.2.2.2.2.2.2.2.2.2.2.2.2.2.2.1,h.2.2.2.2.2.2.2.2.2.2.2.2.2.2.2.2.2.1,h.2.2.2.2.2.2.2.2.2.2.2.2.2.2.2.2.2.2.1,h.2.2.2.2.2.2.2.2.2.2.2.2.2.2.2.2.2.2.2.1,h.2.2.2.2.2.2.2.2.2.2.2.2.2.2.2.2.2.2.2.2.1,h.2.2.2.2.2.2.2.2.2.2.2.2.2.2.2.2.2.2.2.2.2.1,h.2.2.2.2.2.2.2.2.2.2.2.2.2.2.2.2.2.2.2.2.2.2.1,h.2.2.2.2.2.2.2.2.2.2.2.2.2.2.2.2.2.2.2.2.2.2.2.1,h.2.2.2.2.2.2.2.2.2.2.2.2.2.2.2.2.2.2.2.2.2.2.2.2.1,h.2.2.2.2.2.2.2.2.2.2.2.2.2.2.2.2.2.2.2.2.2.2.2.2.2.1,h.2.2.2.2.2.2.2.2.2.2.2.2.2.2.2.2.2.2.2.2.2.2.2.2.2.2.1,h.2.2.2.2.2.2.2.2.2.2.2.2.2.2.2.2.2.2.2.2.2.2.2.2.2.2.2.1,h.2.2.2.2.2.2.2.2.2.2.2.2.2.2.2.2.2.2.2.2.2.2.2.2.2.2.2.2.1,h.2.2.2.2.2.2.2.2.2.2.2.2.2.2.2.2.2.2.2.2.2.2.2.2.2.2.2.2.2.1,h.2.2.2.2.2.2.2.2.2.2.2.2.2.2.2.2.2.2.2.2.2.2.2.2.2.2.2.2.2.2.1,h.2.2.2.2.2.2.2.2.2.2.2.2.2.2.2.2.2.2.2.2.2.2.2.2.2.2.2.2.2.2.2.1,h.2.2.2.2.2.2.2.2.2.2.2.2.2.2.2.2.2.2.2.2.2.2.2.2.2.2.2.2.2.2.2.2.1,h.2.2.2.2.2.2.2.2.2.2.2.2.2.2.2.2.2.2.2.2.2.2.2.2.2.2.2.2.2.2.2.2.2.drew⟩
theorem hHeld33 {W0 w:World} {p0 p1 p2 p3 p4 p5 p6 p7 p8 p9 p10 p11 p12 p13 p14 p15 p16 p17 p18 p19 p20 p21 p22 p23 p24 p25 p26 p27 p28 p29 p30 p31 p32:Addr} {v0 v1 v2 v3 v4 v5 v6 v7 v8 v9 v10 v11 v12 v13 v14 v15 v16 v17 v18 v19 v20 v21 v22 v23 v24 v25 v26 v27 v28 v29 v30 v31 v32:Value} (h:w.cell? p0=some v0∧w.cell? p1=some v1∧w.cell? p2=some v2∧w.cell? p3=some v3∧w.cell? p4=some v4∧w.cell? p5=some v5∧w.cell? p6=some v6∧w.cell? p7=some v7∧w.cell? p8=some v8∧w.cell? p9=some v9∧w.cell? p10=some v10∧w.cell? p11=some v11∧w.cell? p12=some v12∧w.cell? p13=some v13∧w.cell? p14=some v14∧w.cell? p15=some v15∧w.cell? p16=some v16∧w.cell? p17=some v17∧w.cell? p18=some v18∧w.cell? p19=some v19∧w.cell? p20=some v20∧w.cell? p21=some v21∧w.cell? p22=some v22∧w.cell? p23=some v23∧w.cell? p24=some v24∧w.cell? p25=some v25∧w.cell? p26=some v26∧w.cell? p27=some v27∧w.cell? p28=some v28∧w.cell? p29=some v29∧w.cell? p30=some v30∧w.cell? p31=some v31∧w.cell? p32=some v32∧Kp W0 w):Kp W0 w:=h.2.2.2.2.2.2.2.2.2.2.2.2.2.2.2.2.2.2.2.2.2.2.2.2.2.2.2.2.2.2.2.2.2
set_option maxRecDepth 100000 in
set_option maxHeartbeats 4000000 in
theorem faultOf_no (At Ak:Option Addr) (nt nk ct ck:Nat) (l:List Ter) (m:List Knd) (a b c d e W H:Int) (x r y:Value) (lt lr ld:List Int) (T Z:Int) (u:Value) (us:List Uni) (sd bf un at':Int) (v:Value) (a1 a2 a3 a4 a5:Addr) (w:World) (hS:StaAt w u us) (he:Errs w a1 a2 a3 a4 a5) (hg:plcB us sd un=false) :
  Calls Tryz.prog 71 #[.agg #[.slice At nt ct,.slice Ak nk ck,.int .i64 a,.int .i64 b,.int .i64 c,.int .i64 d,.int .i64 e,.int .i64 W,.int .i64 H,x,r,y,.int .i64 T,.int .i64 Z,u,.int .i64 sd],.int .i64 bf,.agg #[.int .i64 un,v,.int .i64 at']] w fun e' w'=>e'=.returned (errV a1 a2 a3 a4 a5 1)∧Kp w w':=by
 have KA:Kp w ((w.alloc (.cells #[.slice At nt ct,.slice Ak nk ck,.int .i64 a,.int .i64 b,.int .i64 c,.int .i64 d,.int .i64 e,.int .i64 W,.int .i64 H,x,r,y,.int .i64 T,.int .i64 Z,u,.int .i64 sd] 111)).alloc (.cells #[.int .i64 un,v,.int .i64 at'] 53)):=(((Kp.refl w).alloc _).alloc _)
 have s0:cb16 ((w.alloc (.cells #[.slice At nt ct,.slice Ak nk ck,.int .i64 a,.int .i64 b,.int .i64 c,.int .i64 d,.int .i64 e,.int .i64 W,.int .i64 H,x,r,y,.int .i64 T,.int .i64 Z,u,.int .i64 sd] 111)).alloc (.cells #[.int .i64 un,v,.int .i64 at'] 53)) (w.heap.size) (.slice At nt ct) (.slice Ak nk ck) (.int .i64 a) (.int .i64 b) (.int .i64 c) (.int .i64 d) (.int .i64 e) (.int .i64 W) (.int .i64 H) (x) (r) (y) (.int .i64 T) (.int .i64 Z) (u) (.int .i64 sd) (cb3 ((w.alloc (.cells #[.slice At nt ct,.slice Ak nk ck,.int .i64 a,.int .i64 b,.int .i64 c,.int .i64 d,.int .i64 e,.int .i64 W,.int .i64 H,x,r,y,.int .i64 T,.int .i64 Z,u,.int .i64 sd] 111)).alloc (.cells #[.int .i64 un,v,.int .i64 at'] 53)) (w.heap.size+1) (.int .i64 un) (v) (.int .i64 at') (((w.alloc (.cells #[.slice At nt ct,.slice Ak nk ck,.int .i64 a,.int .i64 b,.int .i64 c,.int .i64 d,.int .i64 e,.int .i64 W,.int .i64 H,x,r,y,.int .i64 T,.int .i64 Z,u,.int .i64 sd] 111)).alloc (.cells #[.int .i64 un,v,.int .i64 at'] 53)).cell? ⟨1,0,none⟩=some (.iface 325 (.pointer (some a1)))∧((w.alloc (.cells #[.slice At nt ct,.slice Ak nk ck,.int .i64 a,.int .i64 b,.int .i64 c,.int .i64 d,.int .i64 e,.int .i64 W,.int .i64 H,x,r,y,.int .i64 T,.int .i64 Z,u,.int .i64 sd] 111)).alloc (.cells #[.int .i64 un,v,.int .i64 at'] 53)).cell? ⟨2,0,none⟩=some (.iface 325 (.pointer (some a2)))∧((w.alloc (.cells #[.slice At nt ct,.slice Ak nk ck,.int .i64 a,.int .i64 b,.int .i64 c,.int .i64 d,.int .i64 e,.int .i64 W,.int .i64 H,x,r,y,.int .i64 T,.int .i64 Z,u,.int .i64 sd] 111)).alloc (.cells #[.int .i64 un,v,.int .i64 at'] 53)).cell? ⟨3,0,none⟩=some (.iface 325 (.pointer (some a3)))∧((w.alloc (.cells #[.slice At nt ct,.slice Ak nk ck,.int .i64 a,.int .i64 b,.int .i64 c,.int .i64 d,.int .i64 e,.int .i64 W,.int .i64 H,x,r,y,.int .i64 T,.int .i64 Z,u,.int .i64 sd] 111)).alloc (.cells #[.int .i64 un,v,.int .i64 at'] 53)).cell? ⟨4,0,none⟩=some (.iface 325 (.pointer (some a4)))∧((w.alloc (.cells #[.slice At nt ct,.slice Ak nk ck,.int .i64 a,.int .i64 b,.int .i64 c,.int .i64 d,.int .i64 e,.int .i64 W,.int .i64 H,x,r,y,.int .i64 T,.int .i64 Z,u,.int .i64 sd] 111)).alloc (.cells #[.int .i64 un,v,.int .i64 at'] 53)).cell? ⟨5,0,none⟩=some (.iface 325 (.pointer (some a5)))∧Kp w ((w.alloc (.cells #[.slice At nt ct,.slice Ak nk ck,.int .i64 a,.int .i64 b,.int .i64 c,.int .i64 d,.int .i64 e,.int .i64 W,.int .i64 H,x,r,y,.int .i64 T,.int .i64 Z,u,.int .i64 sd] 111)).alloc (.cells #[.int .i64 un,v,.int .i64 at'] 53)))):=⟨by simp [go_sem],by simp [go_sem],by simp [go_sem],by simp [go_sem],by simp [go_sem],by simp [go_sem],by simp [go_sem],by simp [go_sem],by simp [go_sem],by simp [go_sem],by simp [go_sem],by simp [go_sem],by simp [go_sem],by simp [go_sem],by simp [go_sem],by simp [go_sem],by simp [go_sem],by simp [go_sem],by simp [go_sem],KA.cell he.c1,KA.cell he.c2,KA.cell he.c3,KA.cell he.c4,KA.cell he.c5,KA⟩
 have HS:=Lib.hid hS
 have CC:=Lib.hid (fun (w:World) hS=>commands_any At Ak nt nk ct ck l m a b c d e W H x r y lt lr ld T Z u us sd un w hS)
 rw [hg] at CC
 rw [errV_1]
 clear hS he hg
 go_enter Tryz.func71,Tryz.ntmps71
 go_wp2_with fail
 refine(CC.out _ (HS.out.keep s0.2.2.2.2.2.2.2.2.2.2.2.2.2.2.2.2.2.2.2.2.2.2.2.2)).mono ?_
 rintro e1 w1 ⟨rfl,k1⟩
 have s1:=keepd24 k1 s0
 clear s0 k1
 go_wp2_with fail
 go_ret
 exact⟨rfl,s1.2.2.2.2.2.2.2.2.2.2.2.2.2.2.2.2.2.2.2.2.2.2.2.2⟩
set_option maxRecDepth 100000 in
set_option maxHeartbeats 4000000 in
theorem faultOf_yes (At:Option Addr) (nt nk ct ck:Nat) (l:List Ter) (m:List Knd) (a b c d e W H:Int) (x r y:Value) (lt lr ld:List Int) (T Z:Int) (us:List Uni) (sd bf at':Int) (k j:Nat) (sx ax tx mv:Int) (gu ou N cp gk ok':Nat) (v:Value) (p:List Int) (a1 a2 a3 a4 a5:Addr) (w:World) (ht:Tab w) (hB:BrdAt w At (some ⟨gk,ok',none⟩) nt nk l m x r y lt lr ld) (hS:StaAt w (.slice (some ⟨gu,ou,none⟩) N cp) us) (he:Errs w a1 a2 a3 a4 a5) (hok:brdOk ⟨l,m,a,b,c,d,e⟩ W H lt lr ld=true) (hw:Z=0∨Z=1∨Z=2) (hp:RdI w v p) (hl:p.length≤1048576)
  (hk:k<N) (hj:j<m.length) (hx:onI W H ax=true) (q:w.cell? ⟨gu,ou+k*4,none⟩=some (.int .i64 sx)∧w.cell? ⟨gu,ou+k*4+1,none⟩=some (.int .i64 (j:Int))∧w.cell? ⟨gu,ou+k*4+2,none⟩=some (.int .i64 ax)∧w.cell? ⟨gu,ou+k*4+3,none⟩=some (.int .i64 tx)) (hmc:w.cell? ⟨gk,ok'+j*6+2,none⟩=some (.int .i64 mv)) (hg:plcB us sd (k:Int)=true) :
  Calls Tryz.prog 71 #[.agg #[.slice At nt ct,.slice (some ⟨gk,ok',none⟩) nk ck,.int .i64 a,.int .i64 b,.int .i64 c,.int .i64 d,.int .i64 e,.int .i64 W,.int .i64 H,x,r,y,.int .i64 T,.int .i64 Z,.slice (some ⟨gu,ou,none⟩) N cp,.int .i64 sd],.int .i64 bf,.agg #[.int .i64 (k:Int),v,.int .i64 at']] w fun e' w'=>e'=.returned (errV a1 a2 a3 a4 a5 (ordF (stp l lt lr ld W H b c j Z) W H mv true ax p at' bf (k:Int)))∧Kp w w':=by
 obtain⟨q0,q1,q2,q3⟩:=q
 have KA:Kp w ((w.alloc (.cells #[.slice At nt ct,.slice (some ⟨gk,ok',none⟩) nk ck,.int .i64 a,.int .i64 b,.int .i64 c,.int .i64 d,.int .i64 e,.int .i64 W,.int .i64 H,x,r,y,.int .i64 T,.int .i64 Z,.slice (some ⟨gu,ou,none⟩) N cp,.int .i64 sd] 111)).alloc (.cells #[.int .i64 (k:Int),v,.int .i64 at'] 53)):=((Kp.refl w).alloc _).alloc _
 have s0:cb16 ((w.alloc (.cells #[.slice At nt ct,.slice (some ⟨gk,ok',none⟩) nk ck,.int .i64 a,.int .i64 b,.int .i64 c,.int .i64 d,.int .i64 e,.int .i64 W,.int .i64 H,x,r,y,.int .i64 T,.int .i64 Z,.slice (some ⟨gu,ou,none⟩) N cp,.int .i64 sd] 111)).alloc (.cells #[.int .i64 (k:Int),v,.int .i64 at'] 53)) (w.heap.size) (.slice At nt ct) (.slice (some ⟨gk,ok',none⟩) nk ck) (.int .i64 a) (.int .i64 b) (.int .i64 c) (.int .i64 d) (.int .i64 e) (.int .i64 W) (.int .i64 H) (x) (r) (y) (.int .i64 T) (.int .i64 Z) (.slice (some ⟨gu,ou,none⟩) N cp) (.int .i64 sd) (cb3 ((w.alloc (.cells #[.slice At nt ct,.slice (some ⟨gk,ok',none⟩) nk ck,.int .i64 a,.int .i64 b,.int .i64 c,.int .i64 d,.int .i64 e,.int .i64 W,.int .i64 H,x,r,y,.int .i64 T,.int .i64 Z,.slice (some ⟨gu,ou,none⟩) N cp,.int .i64 sd] 111)).alloc (.cells #[.int .i64 (k:Int),v,.int .i64 at'] 53)) (w.heap.size+1) (.int .i64 (k:Int)) (v) (.int .i64 at') (((w.alloc (.cells #[.slice At nt ct,.slice (some ⟨gk,ok',none⟩) nk ck,.int .i64 a,.int .i64 b,.int .i64 c,.int .i64 d,.int .i64 e,.int .i64 W,.int .i64 H,x,r,y,.int .i64 T,.int .i64 Z,.slice (some ⟨gu,ou,none⟩) N cp,.int .i64 sd] 111)).alloc (.cells #[.int .i64 (k:Int),v,.int .i64 at'] 53)).cell? ⟨1,0,none⟩=some (.iface 325 (.pointer (some a1)))∧((w.alloc (.cells #[.slice At nt ct,.slice (some ⟨gk,ok',none⟩) nk ck,.int .i64 a,.int .i64 b,.int .i64 c,.int .i64 d,.int .i64 e,.int .i64 W,.int .i64 H,x,r,y,.int .i64 T,.int .i64 Z,.slice (some ⟨gu,ou,none⟩) N cp,.int .i64 sd] 111)).alloc (.cells #[.int .i64 (k:Int),v,.int .i64 at'] 53)).cell? ⟨2,0,none⟩=some (.iface 325 (.pointer (some a2)))∧((w.alloc (.cells #[.slice At nt ct,.slice (some ⟨gk,ok',none⟩) nk ck,.int .i64 a,.int .i64 b,.int .i64 c,.int .i64 d,.int .i64 e,.int .i64 W,.int .i64 H,x,r,y,.int .i64 T,.int .i64 Z,.slice (some ⟨gu,ou,none⟩) N cp,.int .i64 sd] 111)).alloc (.cells #[.int .i64 (k:Int),v,.int .i64 at'] 53)).cell? ⟨3,0,none⟩=some (.iface 325 (.pointer (some a3)))∧((w.alloc (.cells #[.slice At nt ct,.slice (some ⟨gk,ok',none⟩) nk ck,.int .i64 a,.int .i64 b,.int .i64 c,.int .i64 d,.int .i64 e,.int .i64 W,.int .i64 H,x,r,y,.int .i64 T,.int .i64 Z,.slice (some ⟨gu,ou,none⟩) N cp,.int .i64 sd] 111)).alloc (.cells #[.int .i64 (k:Int),v,.int .i64 at'] 53)).cell? ⟨4,0,none⟩=some (.iface 325 (.pointer (some a4)))∧((w.alloc (.cells #[.slice At nt ct,.slice (some ⟨gk,ok',none⟩) nk ck,.int .i64 a,.int .i64 b,.int .i64 c,.int .i64 d,.int .i64 e,.int .i64 W,.int .i64 H,x,r,y,.int .i64 T,.int .i64 Z,.slice (some ⟨gu,ou,none⟩) N cp,.int .i64 sd] 111)).alloc (.cells #[.int .i64 (k:Int),v,.int .i64 at'] 53)).cell? ⟨5,0,none⟩=some (.iface 325 (.pointer (some a5)))∧((w.alloc (.cells #[.slice At nt ct,.slice (some ⟨gk,ok',none⟩) nk ck,.int .i64 a,.int .i64 b,.int .i64 c,.int .i64 d,.int .i64 e,.int .i64 W,.int .i64 H,x,r,y,.int .i64 T,.int .i64 Z,.slice (some ⟨gu,ou,none⟩) N cp,.int .i64 sd] 111)).alloc (.cells #[.int .i64 (k:Int),v,.int .i64 at'] 53)).cell? ⟨gu,ou+k*4,none⟩=some (.int .i64 sx)∧((w.alloc (.cells #[.slice At nt ct,.slice (some ⟨gk,ok',none⟩) nk ck,.int .i64 a,.int .i64 b,.int .i64 c,.int .i64 d,.int .i64 e,.int .i64 W,.int .i64 H,x,r,y,.int .i64 T,.int .i64 Z,.slice (some ⟨gu,ou,none⟩) N cp,.int .i64 sd] 111)).alloc (.cells #[.int .i64 (k:Int),v,.int .i64 at'] 53)).cell? ⟨gu,ou+k*4+1,none⟩=some (.int .i64 (j:Int))∧((w.alloc (.cells #[.slice At nt ct,.slice (some ⟨gk,ok',none⟩) nk ck,.int .i64 a,.int .i64 b,.int .i64 c,.int .i64 d,.int .i64 e,.int .i64 W,.int .i64 H,x,r,y,.int .i64 T,.int .i64 Z,.slice (some ⟨gu,ou,none⟩) N cp,.int .i64 sd] 111)).alloc (.cells #[.int .i64 (k:Int),v,.int .i64 at'] 53)).cell? ⟨gu,ou+k*4+2,none⟩=some (.int .i64 ax)∧((w.alloc (.cells #[.slice At nt ct,.slice (some ⟨gk,ok',none⟩) nk ck,.int .i64 a,.int .i64 b,.int .i64 c,.int .i64 d,.int .i64 e,.int .i64 W,.int .i64 H,x,r,y,.int .i64 T,.int .i64 Z,.slice (some ⟨gu,ou,none⟩) N cp,.int .i64 sd] 111)).alloc (.cells #[.int .i64 (k:Int),v,.int .i64 at'] 53)).cell? ⟨gu,ou+k*4+3,none⟩=some (.int .i64 tx)∧((w.alloc (.cells #[.slice At nt ct,.slice (some ⟨gk,ok',none⟩) nk ck,.int .i64 a,.int .i64 b,.int .i64 c,.int .i64 d,.int .i64 e,.int .i64 W,.int .i64 H,x,r,y,.int .i64 T,.int .i64 Z,.slice (some ⟨gu,ou,none⟩) N cp,.int .i64 sd] 111)).alloc (.cells #[.int .i64 (k:Int),v,.int .i64 at'] 53)).cell? ⟨gk,ok'+j*6+2,none⟩=some (.int .i64 mv)∧Kp w ((w.alloc (.cells #[.slice At nt ct,.slice (some ⟨gk,ok',none⟩) nk ck,.int .i64 a,.int .i64 b,.int .i64 c,.int .i64 d,.int .i64 e,.int .i64 W,.int .i64 H,x,r,y,.int .i64 T,.int .i64 Z,.slice (some ⟨gu,ou,none⟩) N cp,.int .i64 sd] 111)).alloc (.cells #[.int .i64 (k:Int),v,.int .i64 at'] 53)))):=⟨by simp [go_sem],by simp [go_sem],by simp [go_sem],by simp [go_sem],by simp [go_sem],by simp [go_sem],by simp [go_sem],by simp [go_sem],by simp [go_sem],by simp [go_sem],by simp [go_sem],by simp [go_sem],by simp [go_sem],by simp [go_sem],by simp [go_sem],by simp [go_sem],by simp [go_sem],by simp [go_sem],by simp [go_sem],KA.cell he.c1,KA.cell he.c2,KA.cell he.c3,KA.cell he.c4,KA.cell he.c5,KA.cell q0,KA.cell q1,KA.cell q2,KA.cell q3,KA.cell hmc,KA⟩
 have HT:=Lib.hid ht
 have HB:=Lib.hid hB
 have HS:=Lib.hid hS
 have HP:=Lib.hid hp
 obtain⟨g1,g2,g3,g4⟩:=mapOk_side (brdOk_map hok)
 have hnk:j<nk:=by have:=hB.R.rk.1;omega
 have hnk':(j:Int)<nk:=by omega
 have hk':(k:Int)<N:=by omega
 have CC:=Lib.hid (fun (w:World) hS=>commands_any At (some ⟨gk,ok',none⟩) nt nk ct ck l m a b c d e W H x r y lt lr ld T Z (.slice (some ⟨gu,ou,none⟩) N cp) us sd (k:Int) w hS)
 rw [hg] at CC
 have CR:=Lib.hid (fun (w:World) ht hB hp=>march_any At (some ⟨gk,ok',none⟩) nt nk ct ck l m a b c d e W H x r y lt lr ld T Z (.slice (some ⟨gu,ou,none⟩) N cp) us sd j sx ax tx v p w ht hB hok hj hw hp hl)
 have HON:Hid (goB (stp l lt lr ld W H b c j Z) W ax p=true→onI W H (endP W ax p)=true):=Lib.hid fun h=>wlk_on step_nb p ax hx (goB_pth h).2
 have HSM:Hid (goB (stp l lt lr ld W H b c j Z) W ax p=true→0≤sumL (cstP (stp l lt lr ld W H b c j Z) W ax p)∧sumL (cstP (stp l lt lr ld W H b c j Z) W ax p)≤1000):=Lib.hid fun h=>by
  have h1:=sumL_bd (B:=20) (by omega) _ (cstP_bd (W:=W) (stp_bd hok hj hw) p ax)
  have h2:=cstP_len (stp l lt lr ld W H b c j Z) W p ax
  have h3:=(pth_dir (goB_pth h).1).1
  omega
 unfold ordF ordR
 rw [if_pos rfl]
 generalize sumL (cstP (stp l lt lr ld W H b c j Z) W ax p)=R at CR HSM ⊢
 generalize endP W ax p=E at CR HON ⊢
 clear ht hB hS he hok hw hp hl hj hx q0 q1 q2 q3 hmc hg
 by_cases hbf:(k:Int)≤bf
 ·rw [if_pos hbf,errV_2]
  clear CR HON HSM
  go_enter Tryz.func71,Tryz.ntmps71
  go_wp2_with fail
  refine(CC.out _ (HS.out.keep s0.2.2.2.2.2.2.2.2.2.2.2.2.2.2.2.2.2.2.2.2.2.2.2.2.2.2.2.2.2)).mono ?_
  rintro e1 w1 ⟨rfl,k1⟩
  have s1:=keepd29 k1 s0
  clear s0 k1
  go_wp2_with fail
  go_ret
  exact⟨rfl,s1.2.2.2.2.2.2.2.2.2.2.2.2.2.2.2.2.2.2.2.2.2.2.2.2.2.2.2.2.2⟩
 ·rw [if_neg hbf]
  cases hgo:goB (stp l lt lr ld W H b c j Z) W ax p
  ·rw [hgo] at CR
   rw [if_neg (by simp),errV_3]
   clear HON HSM hgo
   go_enter Tryz.func71,Tryz.ntmps71
   go_wp2_with fail
   refine(CC.out _ (HS.out.keep s0.2.2.2.2.2.2.2.2.2.2.2.2.2.2.2.2.2.2.2.2.2.2.2.2.2.2.2.2.2)).mono ?_
   rintro e1 w1 ⟨rfl,k1⟩
   have s1:=keepd29 k1 s0
   clear s0 k1
   go_upto_region 6 with (fail)
   have k5:Kp w1 (w1.alloc (.cells #[.int .i64 sx,.int .i64 (j:Int),.int .i64 ax,.int .i64 tx] 152)):=((Kp.refl w1).alloc _)
   have s5:cb16 (w1.alloc (.cells #[.int .i64 sx,.int .i64 (j:Int),.int .i64 ax,.int .i64 tx] 152)) (w.heap.size) (.slice At nt ct) (.slice (some ⟨gk,ok',none⟩) nk ck) (.int .i64 a) (.int .i64 b) (.int .i64 c) (.int .i64 d) (.int .i64 e) (.int .i64 W) (.int .i64 H) (x) (r) (y) (.int .i64 T) (.int .i64 Z) (.slice (some ⟨gu,ou,none⟩) N cp) (.int .i64 sd) (cb3 (w1.alloc (.cells #[.int .i64 sx,.int .i64 (j:Int),.int .i64 ax,.int .i64 tx] 152)) (w.heap.size+1) (.int .i64 (k:Int)) (v) (.int .i64 at') ((w1.alloc (.cells #[.int .i64 sx,.int .i64 (j:Int),.int .i64 ax,.int .i64 tx] 152)).cell? ⟨1,0,none⟩=some (.iface 325 (.pointer (some a1)))∧(w1.alloc (.cells #[.int .i64 sx,.int .i64 (j:Int),.int .i64 ax,.int .i64 tx] 152)).cell? ⟨2,0,none⟩=some (.iface 325 (.pointer (some a2)))∧(w1.alloc (.cells #[.int .i64 sx,.int .i64 (j:Int),.int .i64 ax,.int .i64 tx] 152)).cell? ⟨3,0,none⟩=some (.iface 325 (.pointer (some a3)))∧(w1.alloc (.cells #[.int .i64 sx,.int .i64 (j:Int),.int .i64 ax,.int .i64 tx] 152)).cell? ⟨4,0,none⟩=some (.iface 325 (.pointer (some a4)))∧(w1.alloc (.cells #[.int .i64 sx,.int .i64 (j:Int),.int .i64 ax,.int .i64 tx] 152)).cell? ⟨5,0,none⟩=some (.iface 325 (.pointer (some a5)))∧(w1.alloc (.cells #[.int .i64 sx,.int .i64 (j:Int),.int .i64 ax,.int .i64 tx] 152)).cell? ⟨gu,ou+k*4,none⟩=some (.int .i64 sx)∧(w1.alloc (.cells #[.int .i64 sx,.int .i64 (j:Int),.int .i64 ax,.int .i64 tx] 152)).cell? ⟨gu,ou+k*4+1,none⟩=some (.int .i64 (j:Int))∧(w1.alloc (.cells #[.int .i64 sx,.int .i64 (j:Int),.int .i64 ax,.int .i64 tx] 152)).cell? ⟨gu,ou+k*4+2,none⟩=some (.int .i64 ax)∧(w1.alloc (.cells #[.int .i64 sx,.int .i64 (j:Int),.int .i64 ax,.int .i64 tx] 152)).cell? ⟨gu,ou+k*4+3,none⟩=some (.int .i64 tx)∧(w1.alloc (.cells #[.int .i64 sx,.int .i64 (j:Int),.int .i64 ax,.int .i64 tx] 152)).cell? ⟨gk,ok'+j*6+2,none⟩=some (.int .i64 mv)∧cb4 (w1.alloc (.cells #[.int .i64 sx,.int .i64 (j:Int),.int .i64 ax,.int .i64 tx] 152)) (w1.heap.size) (.int .i64 sx) (.int .i64 (j:Int)) (.int .i64 ax) (.int .i64 tx) (Kp w (w1.alloc (.cells #[.int .i64 sx,.int .i64 (j:Int),.int .i64 ax,.int .i64 tx] 152))))):=⟨k5.cell s1.1,k5.cell s1.2.1,k5.cell s1.2.2.1,k5.cell s1.2.2.2.1,k5.cell s1.2.2.2.2.1,k5.cell s1.2.2.2.2.2.1,k5.cell s1.2.2.2.2.2.2.1,k5.cell s1.2.2.2.2.2.2.2.1,k5.cell s1.2.2.2.2.2.2.2.2.1,k5.cell s1.2.2.2.2.2.2.2.2.2.1,k5.cell s1.2.2.2.2.2.2.2.2.2.2.1,k5.cell s1.2.2.2.2.2.2.2.2.2.2.2.1,k5.cell s1.2.2.2.2.2.2.2.2.2.2.2.2.1,k5.cell s1.2.2.2.2.2.2.2.2.2.2.2.2.2.1,k5.cell s1.2.2.2.2.2.2.2.2.2.2.2.2.2.2.1,k5.cell s1.2.2.2.2.2.2.2.2.2.2.2.2.2.2.2.1,k5.cell s1.2.2.2.2.2.2.2.2.2.2.2.2.2.2.2.2.1,k5.cell s1.2.2.2.2.2.2.2.2.2.2.2.2.2.2.2.2.2.1,k5.cell s1.2.2.2.2.2.2.2.2.2.2.2.2.2.2.2.2.2.2.1,k5.cell s1.2.2.2.2.2.2.2.2.2.2.2.2.2.2.2.2.2.2.2.1,k5.cell s1.2.2.2.2.2.2.2.2.2.2.2.2.2.2.2.2.2.2.2.2.1,k5.cell s1.2.2.2.2.2.2.2.2.2.2.2.2.2.2.2.2.2.2.2.2.2.1,k5.cell s1.2.2.2.2.2.2.2.2.2.2.2.2.2.2.2.2.2.2.2.2.2.2.1,k5.cell s1.2.2.2.2.2.2.2.2.2.2.2.2.2.2.2.2.2.2.2.2.2.2.2.1,k5.cell s1.2.2.2.2.2.2.2.2.2.2.2.2.2.2.2.2.2.2.2.2.2.2.2.2.1,k5.cell s1.2.2.2.2.2.2.2.2.2.2.2.2.2.2.2.2.2.2.2.2.2.2.2.2.2.1,k5.cell s1.2.2.2.2.2.2.2.2.2.2.2.2.2.2.2.2.2.2.2.2.2.2.2.2.2.2.1,k5.cell s1.2.2.2.2.2.2.2.2.2.2.2.2.2.2.2.2.2.2.2.2.2.2.2.2.2.2.2.1,k5.cell s1.2.2.2.2.2.2.2.2.2.2.2.2.2.2.2.2.2.2.2.2.2.2.2.2.2.2.2.2.1,by simp [go_sem],by simp [go_sem],by simp [go_sem],by simp [go_sem],s1.2.2.2.2.2.2.2.2.2.2.2.2.2.2.2.2.2.2.2.2.2.2.2.2.2.2.2.2.2.trans k5⟩
   clear s1 k5
   generalize (w1.alloc (.cells #[.int .i64 sx,.int .i64 (j:Int),.int .i64 ax,.int .i64 tx] 152))=W5 at *
   have r16:=range16 (s5.1) (s5.2.1) (s5.2.2.1) (s5.2.2.2.1) (s5.2.2.2.2.1) (s5.2.2.2.2.2.1) (s5.2.2.2.2.2.2.1) (s5.2.2.2.2.2.2.2.1) (s5.2.2.2.2.2.2.2.2.1) (s5.2.2.2.2.2.2.2.2.2.1) (s5.2.2.2.2.2.2.2.2.2.2.1) (s5.2.2.2.2.2.2.2.2.2.2.2.1) (s5.2.2.2.2.2.2.2.2.2.2.2.2.1) (s5.2.2.2.2.2.2.2.2.2.2.2.2.2.1) (s5.2.2.2.2.2.2.2.2.2.2.2.2.2.2.1) (s5.2.2.2.2.2.2.2.2.2.2.2.2.2.2.2.1)
   go_wp2_with ((with_reducible refine load_m r16 Tryz.underlying111 ?_ ?_ ?_ ?_ ?_);exact infoCmd;rfl;rfl;rfl)
   refine(CR.out _ (HT.out.keep s5.2.2.2.2.2.2.2.2.2.2.2.2.2.2.2.2.2.2.2.2.2.2.2.2.2.2.2.2.2.2.2.2.2) (HB.out.keep s5.2.2.2.2.2.2.2.2.2.2.2.2.2.2.2.2.2.2.2.2.2.2.2.2.2.2.2.2.2.2.2.2.2) (HP.out.keep s5.2.2.2.2.2.2.2.2.2.2.2.2.2.2.2.2.2.2.2.2.2.2.2.2.2.2.2.2.2.2.2.2.2)).mono ?_
   rintro e6 w6 ⟨rfl,k6⟩
   have s6:=keepd33 k6 s5
   clear s5 k6 r16
   go_wp2_with fail
   go_ret
   exact⟨rfl,s6.2.2.2.2.2.2.2.2.2.2.2.2.2.2.2.2.2.2.2.2.2.2.2.2.2.2.2.2.2.2.2.2.2⟩
  ·rw [hgo] at CR
   have hon:=HON.out hgo
   have hsm:=HSM.out hgo
   rw [if_pos rfl]
   clear HON HSM hgo
   unfold sfR vI at CR
   rw [if_pos rfl,if_pos rfl] at CR
   by_cases hmo:mv<R
   ·rw [if_pos hmo,errV_4]
    go_enter Tryz.func71,Tryz.ntmps71
    go_wp2_with fail
    refine(CC.out _ (HS.out.keep s0.2.2.2.2.2.2.2.2.2.2.2.2.2.2.2.2.2.2.2.2.2.2.2.2.2.2.2.2.2)).mono ?_
    rintro e1 w1 ⟨rfl,k1⟩
    have s1:=keepd29 k1 s0
    clear s0 k1
    go_upto_region 6 with (fail)
    have k5:Kp w1 (w1.alloc (.cells #[.int .i64 sx,.int .i64 (j:Int),.int .i64 ax,.int .i64 tx] 152)):=((Kp.refl w1).alloc _)
    have s5:cb16 (w1.alloc (.cells #[.int .i64 sx,.int .i64 (j:Int),.int .i64 ax,.int .i64 tx] 152)) (w.heap.size) (.slice At nt ct) (.slice (some ⟨gk,ok',none⟩) nk ck) (.int .i64 a) (.int .i64 b) (.int .i64 c) (.int .i64 d) (.int .i64 e) (.int .i64 W) (.int .i64 H) (x) (r) (y) (.int .i64 T) (.int .i64 Z) (.slice (some ⟨gu,ou,none⟩) N cp) (.int .i64 sd) (cb3 (w1.alloc (.cells #[.int .i64 sx,.int .i64 (j:Int),.int .i64 ax,.int .i64 tx] 152)) (w.heap.size+1) (.int .i64 (k:Int)) (v) (.int .i64 at') ((w1.alloc (.cells #[.int .i64 sx,.int .i64 (j:Int),.int .i64 ax,.int .i64 tx] 152)).cell? ⟨1,0,none⟩=some (.iface 325 (.pointer (some a1)))∧(w1.alloc (.cells #[.int .i64 sx,.int .i64 (j:Int),.int .i64 ax,.int .i64 tx] 152)).cell? ⟨2,0,none⟩=some (.iface 325 (.pointer (some a2)))∧(w1.alloc (.cells #[.int .i64 sx,.int .i64 (j:Int),.int .i64 ax,.int .i64 tx] 152)).cell? ⟨3,0,none⟩=some (.iface 325 (.pointer (some a3)))∧(w1.alloc (.cells #[.int .i64 sx,.int .i64 (j:Int),.int .i64 ax,.int .i64 tx] 152)).cell? ⟨4,0,none⟩=some (.iface 325 (.pointer (some a4)))∧(w1.alloc (.cells #[.int .i64 sx,.int .i64 (j:Int),.int .i64 ax,.int .i64 tx] 152)).cell? ⟨5,0,none⟩=some (.iface 325 (.pointer (some a5)))∧(w1.alloc (.cells #[.int .i64 sx,.int .i64 (j:Int),.int .i64 ax,.int .i64 tx] 152)).cell? ⟨gu,ou+k*4,none⟩=some (.int .i64 sx)∧(w1.alloc (.cells #[.int .i64 sx,.int .i64 (j:Int),.int .i64 ax,.int .i64 tx] 152)).cell? ⟨gu,ou+k*4+1,none⟩=some (.int .i64 (j:Int))∧(w1.alloc (.cells #[.int .i64 sx,.int .i64 (j:Int),.int .i64 ax,.int .i64 tx] 152)).cell? ⟨gu,ou+k*4+2,none⟩=some (.int .i64 ax)∧(w1.alloc (.cells #[.int .i64 sx,.int .i64 (j:Int),.int .i64 ax,.int .i64 tx] 152)).cell? ⟨gu,ou+k*4+3,none⟩=some (.int .i64 tx)∧(w1.alloc (.cells #[.int .i64 sx,.int .i64 (j:Int),.int .i64 ax,.int .i64 tx] 152)).cell? ⟨gk,ok'+j*6+2,none⟩=some (.int .i64 mv)∧cb4 (w1.alloc (.cells #[.int .i64 sx,.int .i64 (j:Int),.int .i64 ax,.int .i64 tx] 152)) (w1.heap.size) (.int .i64 sx) (.int .i64 (j:Int)) (.int .i64 ax) (.int .i64 tx) (Kp w (w1.alloc (.cells #[.int .i64 sx,.int .i64 (j:Int),.int .i64 ax,.int .i64 tx] 152))))):=⟨k5.cell s1.1,k5.cell s1.2.1,k5.cell s1.2.2.1,k5.cell s1.2.2.2.1,k5.cell s1.2.2.2.2.1,k5.cell s1.2.2.2.2.2.1,k5.cell s1.2.2.2.2.2.2.1,k5.cell s1.2.2.2.2.2.2.2.1,k5.cell s1.2.2.2.2.2.2.2.2.1,k5.cell s1.2.2.2.2.2.2.2.2.2.1,k5.cell s1.2.2.2.2.2.2.2.2.2.2.1,k5.cell s1.2.2.2.2.2.2.2.2.2.2.2.1,k5.cell s1.2.2.2.2.2.2.2.2.2.2.2.2.1,k5.cell s1.2.2.2.2.2.2.2.2.2.2.2.2.2.1,k5.cell s1.2.2.2.2.2.2.2.2.2.2.2.2.2.2.1,k5.cell s1.2.2.2.2.2.2.2.2.2.2.2.2.2.2.2.1,k5.cell s1.2.2.2.2.2.2.2.2.2.2.2.2.2.2.2.2.1,k5.cell s1.2.2.2.2.2.2.2.2.2.2.2.2.2.2.2.2.2.1,k5.cell s1.2.2.2.2.2.2.2.2.2.2.2.2.2.2.2.2.2.2.1,k5.cell s1.2.2.2.2.2.2.2.2.2.2.2.2.2.2.2.2.2.2.2.1,k5.cell s1.2.2.2.2.2.2.2.2.2.2.2.2.2.2.2.2.2.2.2.2.1,k5.cell s1.2.2.2.2.2.2.2.2.2.2.2.2.2.2.2.2.2.2.2.2.2.1,k5.cell s1.2.2.2.2.2.2.2.2.2.2.2.2.2.2.2.2.2.2.2.2.2.2.1,k5.cell s1.2.2.2.2.2.2.2.2.2.2.2.2.2.2.2.2.2.2.2.2.2.2.2.1,k5.cell s1.2.2.2.2.2.2.2.2.2.2.2.2.2.2.2.2.2.2.2.2.2.2.2.2.1,k5.cell s1.2.2.2.2.2.2.2.2.2.2.2.2.2.2.2.2.2.2.2.2.2.2.2.2.2.1,k5.cell s1.2.2.2.2.2.2.2.2.2.2.2.2.2.2.2.2.2.2.2.2.2.2.2.2.2.2.1,k5.cell s1.2.2.2.2.2.2.2.2.2.2.2.2.2.2.2.2.2.2.2.2.2.2.2.2.2.2.2.1,k5.cell s1.2.2.2.2.2.2.2.2.2.2.2.2.2.2.2.2.2.2.2.2.2.2.2.2.2.2.2.2.1,by simp [go_sem],by simp [go_sem],by simp [go_sem],by simp [go_sem],s1.2.2.2.2.2.2.2.2.2.2.2.2.2.2.2.2.2.2.2.2.2.2.2.2.2.2.2.2.2.trans k5⟩
    clear s1 k5
    generalize (w1.alloc (.cells #[.int .i64 sx,.int .i64 (j:Int),.int .i64 ax,.int .i64 tx] 152))=W5 at *
    have r16:=range16 (s5.1) (s5.2.1) (s5.2.2.1) (s5.2.2.2.1) (s5.2.2.2.2.1) (s5.2.2.2.2.2.1) (s5.2.2.2.2.2.2.1) (s5.2.2.2.2.2.2.2.1) (s5.2.2.2.2.2.2.2.2.1) (s5.2.2.2.2.2.2.2.2.2.1) (s5.2.2.2.2.2.2.2.2.2.2.1) (s5.2.2.2.2.2.2.2.2.2.2.2.1) (s5.2.2.2.2.2.2.2.2.2.2.2.2.1) (s5.2.2.2.2.2.2.2.2.2.2.2.2.2.1) (s5.2.2.2.2.2.2.2.2.2.2.2.2.2.2.1) (s5.2.2.2.2.2.2.2.2.2.2.2.2.2.2.2.1)
    go_wp2_with ((with_reducible refine load_m r16 Tryz.underlying111 ?_ ?_ ?_ ?_ ?_);exact infoCmd;rfl;rfl;rfl)
    refine(CR.out _ (HT.out.keep s5.2.2.2.2.2.2.2.2.2.2.2.2.2.2.2.2.2.2.2.2.2.2.2.2.2.2.2.2.2.2.2.2.2) (HB.out.keep s5.2.2.2.2.2.2.2.2.2.2.2.2.2.2.2.2.2.2.2.2.2.2.2.2.2.2.2.2.2.2.2.2.2) (HP.out.keep s5.2.2.2.2.2.2.2.2.2.2.2.2.2.2.2.2.2.2.2.2.2.2.2.2.2.2.2.2.2.2.2.2.2)).mono ?_
    rintro e6 w6 ⟨rfl,k6⟩
    have s6:=keepd33 k6 s5
    clear s5 k6 r16
    go_wp2_with fail
    go_ret
    exact⟨rfl,s6.2.2.2.2.2.2.2.2.2.2.2.2.2.2.2.2.2.2.2.2.2.2.2.2.2.2.2.2.2.2.2.2.2⟩
   ·rw [if_neg hmo]
    obtain⟨i0,i1⟩:=onI_true hon
    obtain⟨En,rfl⟩:∃ En:Nat,E=En:=⟨E.toNat,by omega⟩
    by_cases ha:at'=-1
    ·have hd:(at' != -1)=false:=by simpa using ha
     rw [if_pos (by simp [attB,ha]),errV_0]
     clear ha
     go_enter Tryz.func71,Tryz.ntmps71
     go_wp2_with fail
     refine(CC.out _ (HS.out.keep s0.2.2.2.2.2.2.2.2.2.2.2.2.2.2.2.2.2.2.2.2.2.2.2.2.2.2.2.2.2)).mono ?_
     rintro e1 w1 ⟨rfl,k1⟩
     have s1:=keepd29 k1 s0
     clear s0 k1
     go_upto_region 6 with (fail)
     have k5:Kp w1 (w1.alloc (.cells #[.int .i64 sx,.int .i64 (j:Int),.int .i64 ax,.int .i64 tx] 152)):=((Kp.refl w1).alloc _)
     have s5:cb16 (w1.alloc (.cells #[.int .i64 sx,.int .i64 (j:Int),.int .i64 ax,.int .i64 tx] 152)) (w.heap.size) (.slice At nt ct) (.slice (some ⟨gk,ok',none⟩) nk ck) (.int .i64 a) (.int .i64 b) (.int .i64 c) (.int .i64 d) (.int .i64 e) (.int .i64 W) (.int .i64 H) (x) (r) (y) (.int .i64 T) (.int .i64 Z) (.slice (some ⟨gu,ou,none⟩) N cp) (.int .i64 sd) (cb3 (w1.alloc (.cells #[.int .i64 sx,.int .i64 (j:Int),.int .i64 ax,.int .i64 tx] 152)) (w.heap.size+1) (.int .i64 (k:Int)) (v) (.int .i64 at') ((w1.alloc (.cells #[.int .i64 sx,.int .i64 (j:Int),.int .i64 ax,.int .i64 tx] 152)).cell? ⟨1,0,none⟩=some (.iface 325 (.pointer (some a1)))∧(w1.alloc (.cells #[.int .i64 sx,.int .i64 (j:Int),.int .i64 ax,.int .i64 tx] 152)).cell? ⟨2,0,none⟩=some (.iface 325 (.pointer (some a2)))∧(w1.alloc (.cells #[.int .i64 sx,.int .i64 (j:Int),.int .i64 ax,.int .i64 tx] 152)).cell? ⟨3,0,none⟩=some (.iface 325 (.pointer (some a3)))∧(w1.alloc (.cells #[.int .i64 sx,.int .i64 (j:Int),.int .i64 ax,.int .i64 tx] 152)).cell? ⟨4,0,none⟩=some (.iface 325 (.pointer (some a4)))∧(w1.alloc (.cells #[.int .i64 sx,.int .i64 (j:Int),.int .i64 ax,.int .i64 tx] 152)).cell? ⟨5,0,none⟩=some (.iface 325 (.pointer (some a5)))∧(w1.alloc (.cells #[.int .i64 sx,.int .i64 (j:Int),.int .i64 ax,.int .i64 tx] 152)).cell? ⟨gu,ou+k*4,none⟩=some (.int .i64 sx)∧(w1.alloc (.cells #[.int .i64 sx,.int .i64 (j:Int),.int .i64 ax,.int .i64 tx] 152)).cell? ⟨gu,ou+k*4+1,none⟩=some (.int .i64 (j:Int))∧(w1.alloc (.cells #[.int .i64 sx,.int .i64 (j:Int),.int .i64 ax,.int .i64 tx] 152)).cell? ⟨gu,ou+k*4+2,none⟩=some (.int .i64 ax)∧(w1.alloc (.cells #[.int .i64 sx,.int .i64 (j:Int),.int .i64 ax,.int .i64 tx] 152)).cell? ⟨gu,ou+k*4+3,none⟩=some (.int .i64 tx)∧(w1.alloc (.cells #[.int .i64 sx,.int .i64 (j:Int),.int .i64 ax,.int .i64 tx] 152)).cell? ⟨gk,ok'+j*6+2,none⟩=some (.int .i64 mv)∧cb4 (w1.alloc (.cells #[.int .i64 sx,.int .i64 (j:Int),.int .i64 ax,.int .i64 tx] 152)) (w1.heap.size) (.int .i64 sx) (.int .i64 (j:Int)) (.int .i64 ax) (.int .i64 tx) (Kp w (w1.alloc (.cells #[.int .i64 sx,.int .i64 (j:Int),.int .i64 ax,.int .i64 tx] 152))))):=⟨k5.cell s1.1,k5.cell s1.2.1,k5.cell s1.2.2.1,k5.cell s1.2.2.2.1,k5.cell s1.2.2.2.2.1,k5.cell s1.2.2.2.2.2.1,k5.cell s1.2.2.2.2.2.2.1,k5.cell s1.2.2.2.2.2.2.2.1,k5.cell s1.2.2.2.2.2.2.2.2.1,k5.cell s1.2.2.2.2.2.2.2.2.2.1,k5.cell s1.2.2.2.2.2.2.2.2.2.2.1,k5.cell s1.2.2.2.2.2.2.2.2.2.2.2.1,k5.cell s1.2.2.2.2.2.2.2.2.2.2.2.2.1,k5.cell s1.2.2.2.2.2.2.2.2.2.2.2.2.2.1,k5.cell s1.2.2.2.2.2.2.2.2.2.2.2.2.2.2.1,k5.cell s1.2.2.2.2.2.2.2.2.2.2.2.2.2.2.2.1,k5.cell s1.2.2.2.2.2.2.2.2.2.2.2.2.2.2.2.2.1,k5.cell s1.2.2.2.2.2.2.2.2.2.2.2.2.2.2.2.2.2.1,k5.cell s1.2.2.2.2.2.2.2.2.2.2.2.2.2.2.2.2.2.2.1,k5.cell s1.2.2.2.2.2.2.2.2.2.2.2.2.2.2.2.2.2.2.2.1,k5.cell s1.2.2.2.2.2.2.2.2.2.2.2.2.2.2.2.2.2.2.2.2.1,k5.cell s1.2.2.2.2.2.2.2.2.2.2.2.2.2.2.2.2.2.2.2.2.2.1,k5.cell s1.2.2.2.2.2.2.2.2.2.2.2.2.2.2.2.2.2.2.2.2.2.2.1,k5.cell s1.2.2.2.2.2.2.2.2.2.2.2.2.2.2.2.2.2.2.2.2.2.2.2.1,k5.cell s1.2.2.2.2.2.2.2.2.2.2.2.2.2.2.2.2.2.2.2.2.2.2.2.2.1,k5.cell s1.2.2.2.2.2.2.2.2.2.2.2.2.2.2.2.2.2.2.2.2.2.2.2.2.2.1,k5.cell s1.2.2.2.2.2.2.2.2.2.2.2.2.2.2.2.2.2.2.2.2.2.2.2.2.2.2.1,k5.cell s1.2.2.2.2.2.2.2.2.2.2.2.2.2.2.2.2.2.2.2.2.2.2.2.2.2.2.2.1,k5.cell s1.2.2.2.2.2.2.2.2.2.2.2.2.2.2.2.2.2.2.2.2.2.2.2.2.2.2.2.2.1,by simp [go_sem],by simp [go_sem],by simp [go_sem],by simp [go_sem],s1.2.2.2.2.2.2.2.2.2.2.2.2.2.2.2.2.2.2.2.2.2.2.2.2.2.2.2.2.2.trans k5⟩
     clear s1 k5
     generalize (w1.alloc (.cells #[.int .i64 sx,.int .i64 (j:Int),.int .i64 ax,.int .i64 tx] 152))=W5 at *
     have r16:=range16 (s5.1) (s5.2.1) (s5.2.2.1) (s5.2.2.2.1) (s5.2.2.2.2.1) (s5.2.2.2.2.2.1) (s5.2.2.2.2.2.2.1) (s5.2.2.2.2.2.2.2.1) (s5.2.2.2.2.2.2.2.2.1) (s5.2.2.2.2.2.2.2.2.2.1) (s5.2.2.2.2.2.2.2.2.2.2.1) (s5.2.2.2.2.2.2.2.2.2.2.2.1) (s5.2.2.2.2.2.2.2.2.2.2.2.2.1) (s5.2.2.2.2.2.2.2.2.2.2.2.2.2.1) (s5.2.2.2.2.2.2.2.2.2.2.2.2.2.2.1) (s5.2.2.2.2.2.2.2.2.2.2.2.2.2.2.2.1)
     go_wp2_with ((with_reducible refine load_m r16 Tryz.underlying111 ?_ ?_ ?_ ?_ ?_);exact infoCmd;rfl;rfl;rfl)
     refine(CR.out _ (HT.out.keep s5.2.2.2.2.2.2.2.2.2.2.2.2.2.2.2.2.2.2.2.2.2.2.2.2.2.2.2.2.2.2.2.2.2) (HB.out.keep s5.2.2.2.2.2.2.2.2.2.2.2.2.2.2.2.2.2.2.2.2.2.2.2.2.2.2.2.2.2.2.2.2.2) (HP.out.keep s5.2.2.2.2.2.2.2.2.2.2.2.2.2.2.2.2.2.2.2.2.2.2.2.2.2.2.2.2.2.2.2.2.2)).mono ?_
     rintro e6 w6 ⟨rfl,k6⟩
     have s6:=keepd33 k6 s5
     clear s5 k6 r16
     go_upto_region 11 with (fail)
     have s7:=drewd33 s6
     clear s6
     refine wp_region_held_drew (S:=(fun w'=>cb16 w' (w.heap.size) (.slice At nt ct) (.slice (some ⟨gk,ok',none⟩) nk ck) (.int .i64 a) (.int .i64 b) (.int .i64 c) (.int .i64 d) (.int .i64 e) (.int .i64 W) (.int .i64 H) (x) (r) (y) (.int .i64 T) (.int .i64 Z) (.slice (some ⟨gu,ou,none⟩) N cp) (.int .i64 sd) (cb3 w' (w.heap.size+1) (.int .i64 (k:Int)) (v) (.int .i64 at') (w'.cell? ⟨1,0,none⟩=some (.iface 325 (.pointer (some a1)))∧w'.cell? ⟨2,0,none⟩=some (.iface 325 (.pointer (some a2)))∧w'.cell? ⟨3,0,none⟩=some (.iface 325 (.pointer (some a3)))∧w'.cell? ⟨4,0,none⟩=some (.iface 325 (.pointer (some a4)))∧w'.cell? ⟨5,0,none⟩=some (.iface 325 (.pointer (some a5)))∧w'.cell? ⟨gu,ou+k*4,none⟩=some (.int .i64 sx)∧w'.cell? ⟨gu,ou+k*4+1,none⟩=some (.int .i64 (j:Int))∧w'.cell? ⟨gu,ou+k*4+2,none⟩=some (.int .i64 ax)∧w'.cell? ⟨gu,ou+k*4+3,none⟩=some (.int .i64 tx)∧w'.cell? ⟨gk,ok'+j*6+2,none⟩=some (.int .i64 mv)∧cb4 w' (w1.heap.size) (.int .i64 sx) (.int .i64 (j:Int)) (.int .i64 ax) (.int .i64 tx) (Kp w w'))))) (by kernel_rfl) ?_ (fun hHeld=>?_)
     ·exact s7
     refine tk 0 ⟨some 56,_,_,_,_,_⟩ ?_ rfl (by kernel_rfl) (fun _ _ _ h=>h) (by rfl) ?_ (by assumption) ?_
     rotate_left
     ·intro w hSw;(try dsimp only at hSw);go_simp;(all_goals with_reducible rfl)
     simp only [Act.put,sA,sB,sC]
     refine tk 1 ⟨some 57,_,_,_,_,_⟩ ?_ rfl (by kernel_rfl) (fun _ _ _ h=>h) (by rfl) ?_ (by assumption) ?_
     rotate_left
     ·intro w hSw;(try dsimp only at hSw);go_simp;(all_goals with_reducible rfl)
     simp only [Act.put,sA,sB,sC]
     refine tk 2 ⟨some 58,_,_,_,_,_⟩ ?_ rfl (by kernel_rfl) (fun _ _ _ h=>h) (by rfl) ?_ (by assumption) ?_
     rotate_left
     ·intro w hSw;(try dsimp only at hSw);go_simp;(all_goals with_reducible rfl)
     simp only [Act.put,sA,sB,sC]
     refine tk 3 ⟨some 59,_,_,_,_,_⟩ ?_ rfl (by kernel_rfl) (fun _ _ _ h=>h) (by rfl) ?_ (by assumption) ?_
     rotate_left
     ·intro w hSw;(try dsimp only at hSw);go_simp;(all_goals with_reducible rfl)
     simp only [Act.put,sA,sB,sC]
     refine tn 4 ⟨some 60,_,_,_,_,_⟩ rfl (by kernel_rfl) (fun _ _ _ h=>h) (by rfl) (by assumption) ?_
     simp only [Act.put,sA,sB,sC]
     refine tn 5 ⟨some 61,_,_,_,_,_⟩ rfl (by kernel_rfl) (fun _ _ _ h=>h) (by rfl) (by assumption) ?_
     simp only [Act.put,sA,sB,sC]
     refine tn 6 ⟨some 62,_,_,_,_,_⟩ rfl (by kernel_rfl) (fun _ _ _ h=>h) (by rfl) (by assumption) ?_
     simp only [Act.put,sA,sB,sC]
     refine tn 7 ⟨some 63,_,_,_,_,_⟩ rfl (by kernel_rfl) (fun _ _ _ h=>h) (by rfl) (by assumption) ?_
     simp only [Act.put,sA,sB,sC]
     refine tn 9 ⟨some 65,_,_,_,_,_⟩ rfl (by kernel_rfl) (fun _ _ _ h=>h) (by rfl) (by assumption) ?_
     simp only [Act.put,sA,sB,sC]
     refine tn 10 ⟨some 66,_,_,_,_,_⟩ rfl (by kernel_rfl) (fun _ _ _ h=>h) (by rfl) (by assumption) ?_
     simp only [Act.put,sA,sB,sC]
     refine wpAnyH_ready (rs:=[8]) (by kernel_rfl) (by simp) ?_
     refine AllReadyH.cons (o:=⟨some 64,_,_,_,_,_⟩) rfl (fun K hK=>?_) AllReadyH.nil
     go_simp
     refine hK.out _ _ ?_ (fun hHeld=>?_)
     ·(try dsimp only);(first | assumption | exact s7)
     clear hK K
     try simp only [Act.put,sA,sB,sC]
     refine wpAnyH_ready (rs:=[11]) (by kernel_rfl) (by simp) ?_
     refine AllReadyH.cons (o:=⟨some 67,_,_,_,_,_⟩) rfl (fun K hK=>?_) AllReadyH.nil
     go_simp
     refine hK.out _ _ ?_ (fun hHeld=>?_)
     ·(try dsimp only);(first | assumption | exact s7)
     clear hK K
     try simp only [Act.put,sA,sB,sC]
     refine tn 12 ⟨some 68,_,_,_,_,_⟩ rfl (by kernel_rfl) (fun _ _ _ h=>h) (by rfl) (by assumption) ?_
     simp only [Act.put,sA,sB,sC]
     refine tk 13 ⟨some 69,_,_,_,_,_⟩ ?_ rfl (by kernel_rfl) (fun _ _ _ h=>h) (by rfl) ?_ (by assumption) ?_
     rotate_left
     ·intro w hSw;(try dsimp only at hSw);go_simp;(all_goals with_reducible rfl)
     simp only [Act.put,sA,sB,sC]
     refine tk 14 ⟨some 55,_,_,_,_,_⟩ ?_ rfl (by kernel_rfl) (fun _ _ _ h=>h) (by rfl) ?_ (by assumption) ?_
     rotate_left
     ·intro w hSw;(try dsimp only at hSw);go_simp;(all_goals with_reducible rfl)
     simp only [Act.put,sA,sB,sC]
     refine wpAnyH_done (by kernel_rfl) ?_ _
     go_wp2_with fail
     go_ret
     exact⟨rfl,hHeld.2.2.2.2.2.2.2.2.2.2.2.2.2.2.2.2.2.2.2.2.2.2.2.2.2.2.2.2.2.2.2.2.2⟩
    ·have hd:(at' != -1)=true:=by simpa using ha
     have CN:=Lib.hid (fun (w:World) ht=>neighboursOn_any W H x r y En w g1 g2 g3 g4 ht i1)
     have HLN:Hid ((ints (nbS W H En)).length≤1048576):=Lib.hid (by rw [ints_len];have:=nbS_len W H En;omega)
     have HNB:=Lib.hid (neb_nbS W H En at')
     have hat:attB W H (En:Int) at'=nebB W H (En:Int) at':=by unfold attB;rw [decide_eq_false ha,Bool.false_or]
     rw [hat]
     clear hat hon i0 i1 ha
     cases hnb:nebB W H (En:Int) at'
     ·rw [hnb] at HNB
      rw [if_neg (by simp),errV_5]
      clear hnb
      go_enter Tryz.func71,Tryz.ntmps71
      go_wp2_with fail
      refine(CC.out _ (HS.out.keep s0.2.2.2.2.2.2.2.2.2.2.2.2.2.2.2.2.2.2.2.2.2.2.2.2.2.2.2.2.2)).mono ?_
      rintro e1 w1 ⟨rfl,k1⟩
      have s1:=keepd29 k1 s0
      clear s0 k1
      go_upto_region 6 with (fail)
      have k5:Kp w1 (w1.alloc (.cells #[.int .i64 sx,.int .i64 (j:Int),.int .i64 ax,.int .i64 tx] 152)):=((Kp.refl w1).alloc _)
      have s5:cb16 (w1.alloc (.cells #[.int .i64 sx,.int .i64 (j:Int),.int .i64 ax,.int .i64 tx] 152)) (w.heap.size) (.slice At nt ct) (.slice (some ⟨gk,ok',none⟩) nk ck) (.int .i64 a) (.int .i64 b) (.int .i64 c) (.int .i64 d) (.int .i64 e) (.int .i64 W) (.int .i64 H) (x) (r) (y) (.int .i64 T) (.int .i64 Z) (.slice (some ⟨gu,ou,none⟩) N cp) (.int .i64 sd) (cb3 (w1.alloc (.cells #[.int .i64 sx,.int .i64 (j:Int),.int .i64 ax,.int .i64 tx] 152)) (w.heap.size+1) (.int .i64 (k:Int)) (v) (.int .i64 at') ((w1.alloc (.cells #[.int .i64 sx,.int .i64 (j:Int),.int .i64 ax,.int .i64 tx] 152)).cell? ⟨1,0,none⟩=some (.iface 325 (.pointer (some a1)))∧(w1.alloc (.cells #[.int .i64 sx,.int .i64 (j:Int),.int .i64 ax,.int .i64 tx] 152)).cell? ⟨2,0,none⟩=some (.iface 325 (.pointer (some a2)))∧(w1.alloc (.cells #[.int .i64 sx,.int .i64 (j:Int),.int .i64 ax,.int .i64 tx] 152)).cell? ⟨3,0,none⟩=some (.iface 325 (.pointer (some a3)))∧(w1.alloc (.cells #[.int .i64 sx,.int .i64 (j:Int),.int .i64 ax,.int .i64 tx] 152)).cell? ⟨4,0,none⟩=some (.iface 325 (.pointer (some a4)))∧(w1.alloc (.cells #[.int .i64 sx,.int .i64 (j:Int),.int .i64 ax,.int .i64 tx] 152)).cell? ⟨5,0,none⟩=some (.iface 325 (.pointer (some a5)))∧(w1.alloc (.cells #[.int .i64 sx,.int .i64 (j:Int),.int .i64 ax,.int .i64 tx] 152)).cell? ⟨gu,ou+k*4,none⟩=some (.int .i64 sx)∧(w1.alloc (.cells #[.int .i64 sx,.int .i64 (j:Int),.int .i64 ax,.int .i64 tx] 152)).cell? ⟨gu,ou+k*4+1,none⟩=some (.int .i64 (j:Int))∧(w1.alloc (.cells #[.int .i64 sx,.int .i64 (j:Int),.int .i64 ax,.int .i64 tx] 152)).cell? ⟨gu,ou+k*4+2,none⟩=some (.int .i64 ax)∧(w1.alloc (.cells #[.int .i64 sx,.int .i64 (j:Int),.int .i64 ax,.int .i64 tx] 152)).cell? ⟨gu,ou+k*4+3,none⟩=some (.int .i64 tx)∧(w1.alloc (.cells #[.int .i64 sx,.int .i64 (j:Int),.int .i64 ax,.int .i64 tx] 152)).cell? ⟨gk,ok'+j*6+2,none⟩=some (.int .i64 mv)∧cb4 (w1.alloc (.cells #[.int .i64 sx,.int .i64 (j:Int),.int .i64 ax,.int .i64 tx] 152)) (w1.heap.size) (.int .i64 sx) (.int .i64 (j:Int)) (.int .i64 ax) (.int .i64 tx) (Kp w (w1.alloc (.cells #[.int .i64 sx,.int .i64 (j:Int),.int .i64 ax,.int .i64 tx] 152))))):=⟨k5.cell s1.1,k5.cell s1.2.1,k5.cell s1.2.2.1,k5.cell s1.2.2.2.1,k5.cell s1.2.2.2.2.1,k5.cell s1.2.2.2.2.2.1,k5.cell s1.2.2.2.2.2.2.1,k5.cell s1.2.2.2.2.2.2.2.1,k5.cell s1.2.2.2.2.2.2.2.2.1,k5.cell s1.2.2.2.2.2.2.2.2.2.1,k5.cell s1.2.2.2.2.2.2.2.2.2.2.1,k5.cell s1.2.2.2.2.2.2.2.2.2.2.2.1,k5.cell s1.2.2.2.2.2.2.2.2.2.2.2.2.1,k5.cell s1.2.2.2.2.2.2.2.2.2.2.2.2.2.1,k5.cell s1.2.2.2.2.2.2.2.2.2.2.2.2.2.2.1,k5.cell s1.2.2.2.2.2.2.2.2.2.2.2.2.2.2.2.1,k5.cell s1.2.2.2.2.2.2.2.2.2.2.2.2.2.2.2.2.1,k5.cell s1.2.2.2.2.2.2.2.2.2.2.2.2.2.2.2.2.2.1,k5.cell s1.2.2.2.2.2.2.2.2.2.2.2.2.2.2.2.2.2.2.1,k5.cell s1.2.2.2.2.2.2.2.2.2.2.2.2.2.2.2.2.2.2.2.1,k5.cell s1.2.2.2.2.2.2.2.2.2.2.2.2.2.2.2.2.2.2.2.2.1,k5.cell s1.2.2.2.2.2.2.2.2.2.2.2.2.2.2.2.2.2.2.2.2.2.1,k5.cell s1.2.2.2.2.2.2.2.2.2.2.2.2.2.2.2.2.2.2.2.2.2.2.1,k5.cell s1.2.2.2.2.2.2.2.2.2.2.2.2.2.2.2.2.2.2.2.2.2.2.2.1,k5.cell s1.2.2.2.2.2.2.2.2.2.2.2.2.2.2.2.2.2.2.2.2.2.2.2.2.1,k5.cell s1.2.2.2.2.2.2.2.2.2.2.2.2.2.2.2.2.2.2.2.2.2.2.2.2.2.1,k5.cell s1.2.2.2.2.2.2.2.2.2.2.2.2.2.2.2.2.2.2.2.2.2.2.2.2.2.2.1,k5.cell s1.2.2.2.2.2.2.2.2.2.2.2.2.2.2.2.2.2.2.2.2.2.2.2.2.2.2.2.1,k5.cell s1.2.2.2.2.2.2.2.2.2.2.2.2.2.2.2.2.2.2.2.2.2.2.2.2.2.2.2.2.1,by simp [go_sem],by simp [go_sem],by simp [go_sem],by simp [go_sem],s1.2.2.2.2.2.2.2.2.2.2.2.2.2.2.2.2.2.2.2.2.2.2.2.2.2.2.2.2.2.trans k5⟩
      clear s1 k5
      generalize (w1.alloc (.cells #[.int .i64 sx,.int .i64 (j:Int),.int .i64 ax,.int .i64 tx] 152))=W5 at *
      have r16:=range16 (s5.1) (s5.2.1) (s5.2.2.1) (s5.2.2.2.1) (s5.2.2.2.2.1) (s5.2.2.2.2.2.1) (s5.2.2.2.2.2.2.1) (s5.2.2.2.2.2.2.2.1) (s5.2.2.2.2.2.2.2.2.1) (s5.2.2.2.2.2.2.2.2.2.1) (s5.2.2.2.2.2.2.2.2.2.2.1) (s5.2.2.2.2.2.2.2.2.2.2.2.1) (s5.2.2.2.2.2.2.2.2.2.2.2.2.1) (s5.2.2.2.2.2.2.2.2.2.2.2.2.2.1) (s5.2.2.2.2.2.2.2.2.2.2.2.2.2.2.1) (s5.2.2.2.2.2.2.2.2.2.2.2.2.2.2.2.1)
      go_wp2_with ((with_reducible refine load_m r16 Tryz.underlying111 ?_ ?_ ?_ ?_ ?_);exact infoCmd;rfl;rfl;rfl)
      refine(CR.out _ (HT.out.keep s5.2.2.2.2.2.2.2.2.2.2.2.2.2.2.2.2.2.2.2.2.2.2.2.2.2.2.2.2.2.2.2.2.2) (HB.out.keep s5.2.2.2.2.2.2.2.2.2.2.2.2.2.2.2.2.2.2.2.2.2.2.2.2.2.2.2.2.2.2.2.2.2) (HP.out.keep s5.2.2.2.2.2.2.2.2.2.2.2.2.2.2.2.2.2.2.2.2.2.2.2.2.2.2.2.2.2.2.2.2.2)).mono ?_
      rintro e6 w6 ⟨rfl,k6⟩
      have s6:=keepd33 k6 s5
      clear s5 k6 r16
      go_upto_region 11 with (fail)
      have s7:=drewd33 s6
      clear s6
      go_region_held3 (fun w'=>cb16 w' (w.heap.size) (.slice At nt ct) (.slice (some ⟨gk,ok',none⟩) nk ck) (.int .i64 a) (.int .i64 b) (.int .i64 c) (.int .i64 d) (.int .i64 e) (.int .i64 W) (.int .i64 H) (x) (r) (y) (.int .i64 T) (.int .i64 Z) (.slice (some ⟨gu,ou,none⟩) N cp) (.int .i64 sd) (cb3 w' (w.heap.size+1) (.int .i64 (k:Int)) (v) (.int .i64 at') (w'.cell? ⟨1,0,none⟩=some (.iface 325 (.pointer (some a1)))∧w'.cell? ⟨2,0,none⟩=some (.iface 325 (.pointer (some a2)))∧w'.cell? ⟨3,0,none⟩=some (.iface 325 (.pointer (some a3)))∧w'.cell? ⟨4,0,none⟩=some (.iface 325 (.pointer (some a4)))∧w'.cell? ⟨5,0,none⟩=some (.iface 325 (.pointer (some a5)))∧w'.cell? ⟨gu,ou+k*4,none⟩=some (.int .i64 sx)∧w'.cell? ⟨gu,ou+k*4+1,none⟩=some (.int .i64 (j:Int))∧w'.cell? ⟨gu,ou+k*4+2,none⟩=some (.int .i64 ax)∧w'.cell? ⟨gu,ou+k*4+3,none⟩=some (.int .i64 tx)∧w'.cell? ⟨gk,ok'+j*6+2,none⟩=some (.int .i64 mv)∧cb4 w' (w1.heap.size) (.int .i64 sx) (.int .i64 (j:Int)) (.int .i64 ax) (.int .i64 tx) (Kp w w')))) (first | assumption | exact s7)
       (first
        | (go_at_call 139;refine(CN.out _ (HT.out.keep (hHeld33 (by assumption)))).mono ?_;rintro e8 w8 ⟨v8,rfl,o8,k8⟩;have s8:=keepd33 k8 (by assumption);have O8:=Lib.hid o8.rd)
        | (go_at_call 120;refine(contains_any _ _ at' _ O8.out HLN.out).mono ?_;rintro e9 w9 ⟨rfl,rfl⟩;rw [HNB.out]))
      all_goals
       go_wp2_with fail
       go_ret
       exact⟨rfl,hHeld33 (by assumption)⟩
     ·rw [hnb] at HNB
      rw [if_pos rfl,errV_0]
      clear hnb
      go_enter Tryz.func71,Tryz.ntmps71
      go_wp2_with fail
      refine(CC.out _ (HS.out.keep s0.2.2.2.2.2.2.2.2.2.2.2.2.2.2.2.2.2.2.2.2.2.2.2.2.2.2.2.2.2)).mono ?_
      rintro e1 w1 ⟨rfl,k1⟩
      have s1:=keepd29 k1 s0
      clear s0 k1
      go_upto_region 6 with (fail)
      have k5:Kp w1 (w1.alloc (.cells #[.int .i64 sx,.int .i64 (j:Int),.int .i64 ax,.int .i64 tx] 152)):=((Kp.refl w1).alloc _)
      have s5:cb16 (w1.alloc (.cells #[.int .i64 sx,.int .i64 (j:Int),.int .i64 ax,.int .i64 tx] 152)) (w.heap.size) (.slice At nt ct) (.slice (some ⟨gk,ok',none⟩) nk ck) (.int .i64 a) (.int .i64 b) (.int .i64 c) (.int .i64 d) (.int .i64 e) (.int .i64 W) (.int .i64 H) (x) (r) (y) (.int .i64 T) (.int .i64 Z) (.slice (some ⟨gu,ou,none⟩) N cp) (.int .i64 sd) (cb3 (w1.alloc (.cells #[.int .i64 sx,.int .i64 (j:Int),.int .i64 ax,.int .i64 tx] 152)) (w.heap.size+1) (.int .i64 (k:Int)) (v) (.int .i64 at') ((w1.alloc (.cells #[.int .i64 sx,.int .i64 (j:Int),.int .i64 ax,.int .i64 tx] 152)).cell? ⟨1,0,none⟩=some (.iface 325 (.pointer (some a1)))∧(w1.alloc (.cells #[.int .i64 sx,.int .i64 (j:Int),.int .i64 ax,.int .i64 tx] 152)).cell? ⟨2,0,none⟩=some (.iface 325 (.pointer (some a2)))∧(w1.alloc (.cells #[.int .i64 sx,.int .i64 (j:Int),.int .i64 ax,.int .i64 tx] 152)).cell? ⟨3,0,none⟩=some (.iface 325 (.pointer (some a3)))∧(w1.alloc (.cells #[.int .i64 sx,.int .i64 (j:Int),.int .i64 ax,.int .i64 tx] 152)).cell? ⟨4,0,none⟩=some (.iface 325 (.pointer (some a4)))∧(w1.alloc (.cells #[.int .i64 sx,.int .i64 (j:Int),.int .i64 ax,.int .i64 tx] 152)).cell? ⟨5,0,none⟩=some (.iface 325 (.pointer (some a5)))∧(w1.alloc (.cells #[.int .i64 sx,.int .i64 (j:Int),.int .i64 ax,.int .i64 tx] 152)).cell? ⟨gu,ou+k*4,none⟩=some (.int .i64 sx)∧(w1.alloc (.cells #[.int .i64 sx,.int .i64 (j:Int),.int .i64 ax,.int .i64 tx] 152)).cell? ⟨gu,ou+k*4+1,none⟩=some (.int .i64 (j:Int))∧(w1.alloc (.cells #[.int .i64 sx,.int .i64 (j:Int),.int .i64 ax,.int .i64 tx] 152)).cell? ⟨gu,ou+k*4+2,none⟩=some (.int .i64 ax)∧(w1.alloc (.cells #[.int .i64 sx,.int .i64 (j:Int),.int .i64 ax,.int .i64 tx] 152)).cell? ⟨gu,ou+k*4+3,none⟩=some (.int .i64 tx)∧(w1.alloc (.cells #[.int .i64 sx,.int .i64 (j:Int),.int .i64 ax,.int .i64 tx] 152)).cell? ⟨gk,ok'+j*6+2,none⟩=some (.int .i64 mv)∧cb4 (w1.alloc (.cells #[.int .i64 sx,.int .i64 (j:Int),.int .i64 ax,.int .i64 tx] 152)) (w1.heap.size) (.int .i64 sx) (.int .i64 (j:Int)) (.int .i64 ax) (.int .i64 tx) (Kp w (w1.alloc (.cells #[.int .i64 sx,.int .i64 (j:Int),.int .i64 ax,.int .i64 tx] 152))))):=⟨k5.cell s1.1,k5.cell s1.2.1,k5.cell s1.2.2.1,k5.cell s1.2.2.2.1,k5.cell s1.2.2.2.2.1,k5.cell s1.2.2.2.2.2.1,k5.cell s1.2.2.2.2.2.2.1,k5.cell s1.2.2.2.2.2.2.2.1,k5.cell s1.2.2.2.2.2.2.2.2.1,k5.cell s1.2.2.2.2.2.2.2.2.2.1,k5.cell s1.2.2.2.2.2.2.2.2.2.2.1,k5.cell s1.2.2.2.2.2.2.2.2.2.2.2.1,k5.cell s1.2.2.2.2.2.2.2.2.2.2.2.2.1,k5.cell s1.2.2.2.2.2.2.2.2.2.2.2.2.2.1,k5.cell s1.2.2.2.2.2.2.2.2.2.2.2.2.2.2.1,k5.cell s1.2.2.2.2.2.2.2.2.2.2.2.2.2.2.2.1,k5.cell s1.2.2.2.2.2.2.2.2.2.2.2.2.2.2.2.2.1,k5.cell s1.2.2.2.2.2.2.2.2.2.2.2.2.2.2.2.2.2.1,k5.cell s1.2.2.2.2.2.2.2.2.2.2.2.2.2.2.2.2.2.2.1,k5.cell s1.2.2.2.2.2.2.2.2.2.2.2.2.2.2.2.2.2.2.2.1,k5.cell s1.2.2.2.2.2.2.2.2.2.2.2.2.2.2.2.2.2.2.2.2.1,k5.cell s1.2.2.2.2.2.2.2.2.2.2.2.2.2.2.2.2.2.2.2.2.2.1,k5.cell s1.2.2.2.2.2.2.2.2.2.2.2.2.2.2.2.2.2.2.2.2.2.2.1,k5.cell s1.2.2.2.2.2.2.2.2.2.2.2.2.2.2.2.2.2.2.2.2.2.2.2.1,k5.cell s1.2.2.2.2.2.2.2.2.2.2.2.2.2.2.2.2.2.2.2.2.2.2.2.2.1,k5.cell s1.2.2.2.2.2.2.2.2.2.2.2.2.2.2.2.2.2.2.2.2.2.2.2.2.2.1,k5.cell s1.2.2.2.2.2.2.2.2.2.2.2.2.2.2.2.2.2.2.2.2.2.2.2.2.2.2.1,k5.cell s1.2.2.2.2.2.2.2.2.2.2.2.2.2.2.2.2.2.2.2.2.2.2.2.2.2.2.2.1,k5.cell s1.2.2.2.2.2.2.2.2.2.2.2.2.2.2.2.2.2.2.2.2.2.2.2.2.2.2.2.2.1,by simp [go_sem],by simp [go_sem],by simp [go_sem],by simp [go_sem],s1.2.2.2.2.2.2.2.2.2.2.2.2.2.2.2.2.2.2.2.2.2.2.2.2.2.2.2.2.2.trans k5⟩
      clear s1 k5
      generalize (w1.alloc (.cells #[.int .i64 sx,.int .i64 (j:Int),.int .i64 ax,.int .i64 tx] 152))=W5 at *
      have r16:=range16 (s5.1) (s5.2.1) (s5.2.2.1) (s5.2.2.2.1) (s5.2.2.2.2.1) (s5.2.2.2.2.2.1) (s5.2.2.2.2.2.2.1) (s5.2.2.2.2.2.2.2.1) (s5.2.2.2.2.2.2.2.2.1) (s5.2.2.2.2.2.2.2.2.2.1) (s5.2.2.2.2.2.2.2.2.2.2.1) (s5.2.2.2.2.2.2.2.2.2.2.2.1) (s5.2.2.2.2.2.2.2.2.2.2.2.2.1) (s5.2.2.2.2.2.2.2.2.2.2.2.2.2.1) (s5.2.2.2.2.2.2.2.2.2.2.2.2.2.2.1) (s5.2.2.2.2.2.2.2.2.2.2.2.2.2.2.2.1)
      go_wp2_with ((with_reducible refine load_m r16 Tryz.underlying111 ?_ ?_ ?_ ?_ ?_);exact infoCmd;rfl;rfl;rfl)
      refine(CR.out _ (HT.out.keep s5.2.2.2.2.2.2.2.2.2.2.2.2.2.2.2.2.2.2.2.2.2.2.2.2.2.2.2.2.2.2.2.2.2) (HB.out.keep s5.2.2.2.2.2.2.2.2.2.2.2.2.2.2.2.2.2.2.2.2.2.2.2.2.2.2.2.2.2.2.2.2.2) (HP.out.keep s5.2.2.2.2.2.2.2.2.2.2.2.2.2.2.2.2.2.2.2.2.2.2.2.2.2.2.2.2.2.2.2.2.2)).mono ?_
      rintro e6 w6 ⟨rfl,k6⟩
      have s6:=keepd33 k6 s5
      clear s5 k6 r16
      go_upto_region 11 with (fail)
      have s7:=drewd33 s6
      clear s6
      go_region_held3 (fun w'=>cb16 w' (w.heap.size) (.slice At nt ct) (.slice (some ⟨gk,ok',none⟩) nk ck) (.int .i64 a) (.int .i64 b) (.int .i64 c) (.int .i64 d) (.int .i64 e) (.int .i64 W) (.int .i64 H) (x) (r) (y) (.int .i64 T) (.int .i64 Z) (.slice (some ⟨gu,ou,none⟩) N cp) (.int .i64 sd) (cb3 w' (w.heap.size+1) (.int .i64 (k:Int)) (v) (.int .i64 at') (w'.cell? ⟨1,0,none⟩=some (.iface 325 (.pointer (some a1)))∧w'.cell? ⟨2,0,none⟩=some (.iface 325 (.pointer (some a2)))∧w'.cell? ⟨3,0,none⟩=some (.iface 325 (.pointer (some a3)))∧w'.cell? ⟨4,0,none⟩=some (.iface 325 (.pointer (some a4)))∧w'.cell? ⟨5,0,none⟩=some (.iface 325 (.pointer (some a5)))∧w'.cell? ⟨gu,ou+k*4,none⟩=some (.int .i64 sx)∧w'.cell? ⟨gu,ou+k*4+1,none⟩=some (.int .i64 (j:Int))∧w'.cell? ⟨gu,ou+k*4+2,none⟩=some (.int .i64 ax)∧w'.cell? ⟨gu,ou+k*4+3,none⟩=some (.int .i64 tx)∧w'.cell? ⟨gk,ok'+j*6+2,none⟩=some (.int .i64 mv)∧cb4 w' (w1.heap.size) (.int .i64 sx) (.int .i64 (j:Int)) (.int .i64 ax) (.int .i64 tx) (Kp w w')))) (first | assumption | exact s7)
       (first
        | (go_at_call 139;refine(CN.out _ (HT.out.keep (hHeld33 (by assumption)))).mono ?_;rintro e8 w8 ⟨v8,rfl,o8,k8⟩;have s8:=keepd33 k8 (by assumption);have O8:=Lib.hid o8.rd)
        | (go_at_call 120;refine(contains_any _ _ at' _ O8.out HLN.out).mono ?_;rintro e9 w9 ⟨rfl,rfl⟩;rw [HNB.out]))
      all_goals
       go_wp2_with fail
       go_ret
       exact⟨rfl,hHeld33 (by assumption)⟩
set_option maxRecDepth 100000 in
set_option maxHeartbeats 4000000 in
theorem faultOf_any (At Ak:Option Addr) (nt nk ct ck:Nat) (l:List Ter) (m:List Knd) (a b c d e W H:Int) (x r y:Value) (lt lr ld:List Int) (T Z:Int) (u:Value) (us:List Uni) (sd bf un at':Int) (v:Value) (p:List Int) (a1 a2 a3 a4 a5:Addr) (w:World) (ht:Tab w) (hB:BrdAt w At Ak nt nk l m x r y lt lr ld) (hS:StaAt w u us) (he:Errs w a1 a2 a3 a4 a5) (hok:brdOk ⟨l,m,a,b,c,d,e⟩ W H lt lr ld=true) (hst:staOk ⟨l,m,a,b,c,d,e⟩ W H lt T Z us=true) (hp:RdI w v p) (hl:p.length≤1048576) :
  Calls Tryz.prog 71 #[.agg #[.slice At nt ct,.slice Ak nk ck,.int .i64 a,.int .i64 b,.int .i64 c,.int .i64 d,.int .i64 e,.int .i64 W,.int .i64 H,x,r,y,.int .i64 T,.int .i64 Z,u,.int .i64 sd],.int .i64 bf,.agg #[.int .i64 un,v,.int .i64 at']] w fun e' w'=>e'=.returned (errV a1 a2 a3 a4 a5 (ordF (stp l lt lr ld W H b c (unN us un).k.toNat Z) W H (mvN m (unN us un).k) (plcB us sd un) (unN us un).a p at' bf un))∧Kp w w':=by
 cases hg:plcB us sd un
 ·rw [ordF_no]
  exact faultOf_no At Ak nt nk ct ck l m a b c d e W H x r y lt lr ld T Z u us sd bf un at' v a1 a2 a3 a4 a5 w hS he hg
 ·obtain⟨hun,_,ha⟩:=plc_parts hg
  obtain⟨k,rfl,hk,hz⟩:=unN_of hun
  have hu:uniOk l m W H lt (unN us (k:Int))=true:=(staOk_parts hst).2.2.1 _ (List.mem_of_getElem? hz)
  obtain⟨j,kd,e1,hj,hkd,hon⟩:=ord_kind hu ha
  have hw:=Int_three (staOk_parts hst).1.2
  obtain⟨A,cp,rfl,h⟩:=hS.rd
  obtain⟨gu,ou,rfl,hc⟩:=h (by omega)
  have q:=hc k _ hz
  have hnk:0<nk:=by have:=hB.R.rk.1;omega
  obtain⟨gk,ok',rfl,hck⟩:=hB.R.rk.2 hnk
  have hmc:=(hck j kd hkd).2.2.1
  have e2:mvN m (unN us (k:Int)).k=kd.mov:=by unfold mvN;rw [e1,Int.toNat_natCast,hkd];rfl
  rw [e2,e1,Int.toNat_natCast]
  generalize unN us (k:Int)=zz at q hon e1 ⊢
  obtain⟨sx,kx,ax,tx⟩:=zz
  simp only at q hon e1 ⊢
  subst e1
  exact faultOf_yes At nt nk ct ck l m a b c d e W H x r y lt lr ld T Z us sd bf at' k j sx ax tx kd.mov gu ou us.length cp gk ok' v p a1 a2 a3 a4 a5 w ht hB hS he hok hw hp hl hk hj hon q hmc hg
end Go.Proofs.YtacgknllagdkoaaGreatDoor
