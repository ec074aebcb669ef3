/-
 The reference's search for supply: for each hex the least number of steps from a source over hexes that can be used. In memory of its own; nothing that was there is changed.
-/
import Derived.Test.YtacgknllagdkoaaGreatDoorSuM
import Derived.Deep.Cut
import Derived.Maps.AppendAt
import Derived.Deep.RegionHeld3
import Derived.Test.YtacgknllagdkoaaGreatDoorQa
import Derived.Test.YtacgknllagdkoaaGreatDoorQc
import Derived.Test.YtacgknllagdkoaaGreatDoorQe
import Derived.Test.YtacgknllagdkoaaGreatDoorQl
import Derived.Test.YtacgknllagdkoaaGreatDoorQa
namespace Go.Proofs.YtacgknllagdkoaaGreatDoor
open Go.RowKit
/-- The slice v reads as n bools. -/
theorem grow5 {W0 w w1:World} {row:Option Nat} {b:Nat} {v0 v1 v2 v3 v4:Value} (h:cb5 w b v0 v1 v2 v3 v4 (Kp W0 w)) (g:w.grownBy w1 row) {B:Nat} (hr:∀ k,row=some k→B≤k) (hb:b<B:=by omega) (h0:W0.heap.size≤B:=by omega) :
  cb5 w1 b v0 v1 v2 v3 v4 (Kp W0 w1):=by
 have hn:some b ≠ row:=fun e=>by have:=hr b e.symm;omega
 exact⟨g.cell h.1 hn,g.cell h.2.1 hn,g.cell h.2.2.1 hn,g.cell h.2.2.2.1 hn,g.cell h.2.2.2.2.1 hn,h.2.2.2.2.2.grown g (fun k e=>by have:=hr k e;omega)⟩
end Go.Proofs.YtacgknllagdkoaaGreatDoor
