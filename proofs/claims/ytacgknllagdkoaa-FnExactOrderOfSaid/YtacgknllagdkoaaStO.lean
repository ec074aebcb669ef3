/-
  The laws' own functions on states: the size, the copy (in memory of its own), the comparison of two that read as the same list, the marks and the look at them; an argument that is a state reads as its list.
-/
import Derived.Test.YtacgknllagdkoaaUnO
namespace Go.Proofs.Ytacgknllagdkoaa
open Go.ChangeShapes Go.WideShapes Go.ChangeAt Go.RowKit Go.Joins Go.Deep

/-- What an argument's state is: a slice that reads as a list, within Go's own bounds; and the same, small. -/
structure StaIn (w : World) (u : Value) (us : List Uni) : Prop where
  rd : RdU w u us
  b : us.length ≤ 9223372036854775807
  i : ∀ x ∈ us, UniI x
structure StaAt (w : World) (u : Value) (us : List Uni) : Prop where
  rd : RdU w u us
  b : us.length ≤ 1048576
  i : ∀ x ∈ us, UniI x
theorem StaIn.keep {w w' : World} {u : Value} {us : List Uni} (h : StaIn w u us) (k : Kp w w') : StaIn w' u us := ⟨h.rd.keep k, h.b, h.i⟩
theorem StaAt.keep {w w' : World} {u : Value} {us : List Uni} (h : StaAt w u us) (k : Kp w w') : StaAt w' u us := ⟨h.rd.keep k, h.b, h.i⟩
theorem StaIn.at {w : World} {u : Value} {us : List Uni} (h : StaIn w u us) (s : us.length ≤ 1048576) : StaAt w u us := ⟨h.rd, s, h.i⟩
end Go.Proofs.Ytacgknllagdkoaa
