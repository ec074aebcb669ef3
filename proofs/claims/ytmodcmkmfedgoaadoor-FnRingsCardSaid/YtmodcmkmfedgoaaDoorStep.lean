/-
  The reference's step in a direction returns what a plain function on integers says, and changes nothing that was there.
-/
import Derived.Test.YtmodcmkmfedgoaaDoorDir
import Derived.Test.YtmodcmkmfedgoaaDoorStepA
import Derived.Test.YtmodcmkmfedgoaaDoorStepB
namespace Go.Proofs.YtmodcmkmfedgoaaDoor
open Go.RowKit

theorem hStep_any (q r d : Int) (w : World) (hd0 : 0 ≤ d) (hd5 : d ≤ 5) (h1 : -1000 ≤ q) (h2 : q ≤ 1000) (h3 : -1000 ≤ r) (h4 : r ≤ 1000) :
    Calls Tryd.prog 35 #[hx q r, .int .i64 d] w fun e w' => e = .returned (hx (q + dirQ d) (r + dirR d)) ∧ Kp w w' := by
  rcases six hd0 hd5 with rfl | rfl | rfl | rfl | rfl | rfl
  · exact hStep_0 q r w h1 h2 h3 h4
  · exact hStep_1 q r w h1 h2 h3 h4
  · exact hStep_2 q r w h1 h2 h3 h4
  · exact hStep_3 q r w h1 h2 h3 h4
  · exact hStep_4 q r w h1 h2 h3 h4
  · exact hStep_5 q r w h1 h2 h3 h4

end Go.Proofs.YtmodcmkmfedgoaaDoor
