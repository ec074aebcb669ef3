/-
  An argument of type Rules reads as two lists and five numbers.
-/
import Derived.Test.YtacgknllagdkoaaRulL
import Derived.Test.YtacgknllagdkoaaRulC
import Derived.Test.YtacgknllagdkoaaMapW
import Derived.Test.YtacgknllagdkoaaRdS
import Derived.Deep.Slices
namespace Go.Proofs.Ytacgknllagdkoaa
open Go.ChangeShapes Go.WideShapes Go.ChangeAt Go.RowKit Go.Joins Go.Deep

theorem RulIn.keep {w w' : World} {At Ak : Option Addr} {nt nk : Nat} {l : List Ter} {m : List Knd} (h : RulIn w At Ak nt nk l m) (k : Kp w w') : RulIn w' At Ak nt nk l m :=
  ⟨h.rt.keep k, h.rk.keep k, h.bt, h.bk, h.bc, h.bn⟩

end Go.Proofs.Ytacgknllagdkoaa
