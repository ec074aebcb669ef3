/-
  The reference's units that exert control on a hex, and zones. Nothing that was there is changed.
-/
import Derived.Test.YtacgknllagdkoaaGreatDoorZnM
import Derived.Test.YtacgknllagdkoaaGreatDoorQa
import Derived.Test.YtacgknllagdkoaaGreatDoorQe
import Derived.Test.YtacgknllagdkoaaGreatDoorQt
import Derived.Test.YtacgknllagdkoaaGreatDoorQa
namespace Go.Proofs.YtacgknllagdkoaaGreatDoor
open Go.RowKit
theorem keepe15 {W0 w w1:World} {p0 p1 p2 p3 p4 p5 p6 p7 p8 p9 p10 p11 p12 p13 p14:Addr} {v0 v1 v2 v3 v4 v5 v6 v7 v8 v9 v10 v11 v12 v13 v14:Value} (k:Kp w w1) (h:w.cell? p0=some v0∧w.cell? p1=some v1∧w.cell? p2=some v2∧w.cell? p3=some v3∧w.cell? p4=some v4∧w.cell? p5=some v5∧w.cell? p6=some v6∧w.cell? p7=some v7∧w.cell? p8=some v8∧w.cell? p9=some v9∧w.cell? p10=some v10∧w.cell? p11=some v11∧w.cell? p12=some v12∧w.cell? p13=some v13∧w.cell? p14=some v14∧Kp W0 w):w1.cell? p0=some v0∧w1.cell? p1=some v1∧w1.cell? p2=some v2∧w1.cell? p3=some v3∧w1.cell? p4=some v4∧w1.cell? p5=some v5∧w1.cell? p6=some v6∧w1.cell? p7=some v7∧w1.cell? p8=some v8∧w1.cell? p9=some v9∧w1.cell? p10=some v10∧w1.cell? p11=some v11∧w1.cell? p12=some v12∧w1.cell? p13=some v13∧w1.cell? p14=some v14∧Kp W0 w1 :=
  ⟨k.cell h.1,k.cell h.2.1,k.cell h.2.2.1,k.cell h.2.2.2.1,k.cell h.2.2.2.2.1,k.cell h.2.2.2.2.2.1,k.cell h.2.2.2.2.2.2.1,k.cell h.2.2.2.2.2.2.2.1,k.cell h.2.2.2.2.2.2.2.2.1,k.cell h.2.2.2.2.2.2.2.2.2.1,k.cell h.2.2.2.2.2.2.2.2.2.2.1,k.cell h.2.2.2.2.2.2.2.2.2.2.2.1,k.cell h.2.2.2.2.2.2.2.2.2.2.2.2.1,k.cell h.2.2.2.2.2.2.2.2.2.2.2.2.2.1,k.cell h.2.2.2.2.2.2.2.2.2.2.2.2.2.2.1,h.2.2.2.2.2.2.2.2.2.2.2.2.2.2.2.trans k⟩
end Go.Proofs.YtacgknllagdkoaaGreatDoor
