/-
  The program's test of rules returns what a plain function on lists says, and changes nothing that was there. The ranges hold what the program's text lays.
-/
import Derived.Test.YtacgknllagdkoaaRulW
namespace Go.Proofs.Ytacgknllagdkoaa
open Go.RowKit

/-- What rules are in memory: two slices that read as lists, and bounds. -/
structure RulAt (w : World) (At Ak : Option Addr) (nt nk : Nat) (l : List Ter) (m : List Knd) : Prop where
  rt : RdT w At nt l
  rk : RdK w Ak nk m
  bt : nt ≤ 1048576
  bk : nk ≤ 1048576
  bc : ∀ x ∈ l, x.cost.length ≤ 1048576 ∧ x.name.size ≤ 1048576
  bn : ∀ x ∈ m, x.name.size ≤ 1048576
theorem RulAt.keep {w w' : World} {At Ak : Option Addr} {nt nk : Nat} {l : List Ter} {m : List Knd} (h : RulAt w At Ak nt nk l m) (k : Kp w w') : RulAt w' At Ak nt nk l m :=
  ⟨h.rt.keep k, h.rk.keep k, h.bt, h.bk, h.bc, h.bn⟩

end Go.Proofs.Ytacgknllagdkoaa
