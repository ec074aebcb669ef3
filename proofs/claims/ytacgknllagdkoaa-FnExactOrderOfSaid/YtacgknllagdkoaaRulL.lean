/-
  The laws' sizes of terrains, kinds and rules: either what is left is negative, or all that was counted is small. Nothing that was there is changed.
-/
import Derived.Test.YtacgknllagdkoaaIsRulesI
import Derived.Test.YtacgknllagdkoaaMapK
import Derived.Test.YtacgknllagdkoaaHex
import Derived.LoopTactic
import Derived.IntWalk
import Derived.Test.YtacgknllagdkoaaDirs
import Derived.Test.YtacgknllagdkoaaFar
import Derived.RegionTactic
import Derived.BigRegion
import Derived.Deep.RegionHeld3
import Derived.Test.YtacgknllagdkoaaRulM
import Derived.Test.YtacgknllagdkoaaInts
import Derived.Test.YtacgknllagdkoaaMapL
import Derived.Test.YtacgknllagdkoaaSzP
namespace Go.Proofs.Ytacgknllagdkoaa
open Go.RowKit

def smT (x : Ter) : Prop := x.cost.length ≤ 1048576 ∧ x.name.size ≤ 1048576
def smK (x : Knd) : Prop := x.name.size ≤ 1048576

/-- What an argument's rules are: two slices that read as lists, within Go's own bounds. -/
structure RulIn (w : World) (At Ak : Option Addr) (nt nk : Nat) (l : List Ter) (m : List Knd) : Prop where
  rt : RdT w At nt l
  rk : RdK w Ak nk m
  bt : nt ≤ 9223372036854775807
  bk : nk ≤ 9223372036854775807
  bc : ∀ x ∈ l, x.cost.length ≤ 9223372036854775807 ∧ x.name.size ≤ 9223372036854775807
  bn : ∀ x ∈ m, x.name.size ≤ 9223372036854775807
def rulSm (nt nk : Nat) (l : List Ter) (m : List Knd) : Prop := (nt ≤ 1048576 ∧ ∀ x ∈ l, smT x) ∧ (nk ≤ 1048576 ∧ ∀ x ∈ m, smK x)
theorem RulIn.at {w : World} {At Ak : Option Addr} {nt nk : Nat} {l : List Ter} {m : List Knd} (h : RulIn w At Ak nt nk l m) (s : rulSm nt nk l m) : RulAt w At Ak nt nk l m :=
  ⟨h.rt, h.rk, s.1.1, s.2.1, s.1.2, s.2.2⟩

end Go.Proofs.Ytacgknllagdkoaa
