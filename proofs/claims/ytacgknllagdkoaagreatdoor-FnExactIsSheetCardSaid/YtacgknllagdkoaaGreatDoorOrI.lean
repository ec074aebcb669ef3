/-
 errors.Is of the program's faults: five errors of errors.New, each plain or wrapped in a sheetFault; the code of a fault. Nothing that was there is changed.
-/
import Derived.Test.YtacgknllagdkoaaGreatDoorOrF
import Derived.WalkKit
import Derived.LaidEql
import Derived.Stop.Asserts
import Derived.RowKitTokens
import Derived.Test.YtacgknllagdkoaaGreatDoorQa
import Derived.Test.YtacgknllagdkoaaGreatDoorQa
namespace Go.Proofs.YtacgknllagdkoaaGreatDoor
open Go.RowKit Go.Extern.Stop Go.Stop Go.Extern
/-- The five faults lie apart, in memory of their own. -/
structure ErrD (w:World) (a1 a2 a3 a4 a5:Addr):Prop where
 r:(∃ c t,w.heap[a1.block]?=some (.cells c t (0,0)))∧(∃ c t,w.heap[a2.block]?=some (.cells c t (0,0)))∧(∃ c t,w.heap[a3.block]?=some (.cells c t (0,0)))∧(∃ c t,w.heap[a4.block]?=some (.cells c t (0,0)))∧(∃ c t,w.heap[a5.block]?=some (.cells c t (0,0)))
 ne:a1 ≠ a2∧a1 ≠ a3∧a1 ≠ a4∧a1 ≠ a5∧a2 ≠ a3∧a2 ≠ a4∧a2 ≠ a5∧a3 ≠ a4∧a3 ≠ a5∧a4 ≠ a5
theorem ErrD.keep {w w':World} {a1 a2 a3 a4 a5:Addr} (h:ErrD w a1 a2 a3 a4 a5) (k:Kp w w'):ErrD w' a1 a2 a3 a4 a5:=by
 have K:∀ b:Nat,(∃ c t,w.heap[b]?=some (.cells c t (0,0)))→∃ c t,w'.heap[b]?=some (.cells c t (0,0)):=fun b ⟨c,t,hb⟩=>⟨c,t,(k.block b (Array.getElem?_eq_some_iff.1 hb).1).trans hb⟩
 exact⟨⟨K _ h.r.1,K _ h.r.2.1,K _ h.r.2.2.1,K _ h.r.2.2.2.1,K _ h.r.2.2.2.2⟩,h.ne⟩
end Go.Proofs.YtacgknllagdkoaaGreatDoor
