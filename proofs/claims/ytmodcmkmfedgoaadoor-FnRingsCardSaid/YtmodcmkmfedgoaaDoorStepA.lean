/-
  The reference's step in three directions returns what is said, and changes nothing that was there.
-/
import Derived.Test.YtmodcmkmfedgoaaDoorDirs
import Derived.RegionTactic
import Derived.BigRegion
namespace Go.Proofs.YtmodcmkmfedgoaaDoor
open Go.RowKit

set_option maxHeartbeats 4000000 in
theorem hStep_0 (q r : Int) (w : World) (h1 : -1000 ≤ q) (h2 : q ≤ 1000) (h3 : -1000 ≤ r) (h4 : r ≤ 1000) :
    Calls Tryd.prog 35 #[hx q r, .int .i64 0] w fun e w' => e = .returned (hx (q + 1) (r + 0)) ∧ Kp w w' := by
  go_enter Tryd.func35, Tryd.ntmps35
  go_wp2
  go_region
  all_goals
    go_wp2
    exact bodyPost_ret (v := hx (q + 1) (r + 0)) (by simp [results, Tryd.results35, go_sem]) rfl ⟨rfl, (((((Kp.refl _).alloc _).alloc _).alloc _).alloc _).drew⟩
set_option maxHeartbeats 4000000 in
theorem hStep_1 (q r : Int) (w : World) (h1 : -1000 ≤ q) (h2 : q ≤ 1000) (h3 : -1000 ≤ r) (h4 : r ≤ 1000) :
    Calls Tryd.prog 35 #[hx q r, .int .i64 1] w fun e w' => e = .returned (hx (q + 1) (r + -1)) ∧ Kp w w' := by
  go_enter Tryd.func35, Tryd.ntmps35
  go_wp2
  go_region
  all_goals
    go_wp2
    exact bodyPost_ret (v := hx (q + 1) (r + -1)) (by simp [results, Tryd.results35, go_sem]) rfl ⟨rfl, (((((Kp.refl _).alloc _).alloc _).alloc _).alloc _).drew⟩
set_option maxHeartbeats 4000000 in
theorem hStep_2 (q r : Int) (w : World) (h1 : -1000 ≤ q) (h2 : q ≤ 1000) (h3 : -1000 ≤ r) (h4 : r ≤ 1000) :
    Calls Tryd.prog 35 #[hx q r, .int .i64 2] w fun e w' => e = .returned (hx (q + 0) (r + -1)) ∧ Kp w w' := by
  go_enter Tryd.func35, Tryd.ntmps35
  go_wp2
  go_region
  all_goals
    go_wp2
    exact bodyPost_ret (v := hx (q + 0) (r + -1)) (by simp [results, Tryd.results35, go_sem]) rfl ⟨rfl, (((((Kp.refl _).alloc _).alloc _).alloc _).alloc _).drew⟩
end Go.Proofs.YtmodcmkmfedgoaaDoor
