/-
  The program's ranges of permitted numbers: what its variables hold, and the functions that ask whether numbers lie in them. Nothing that was there is changed.
-/
import Derived.Test.YtacgknllagdkoaaRulM
import Derived.Deep.RegionHeld3
namespace Go.Proofs.Ytacgknllagdkoaa
open Go.RowKit

abbrev rv (t k : Value) (a b c d e : Int) : Value := .agg #[t, k, .int .i64 a, .int .i64 b, .int .i64 c, .int .i64 d, .int .i64 e]

end Go.Proofs.Ytacgknllagdkoaa
