/-
  WeatherCost of both sides. Nothing that was there is changed. The named variable holds what the program's text lays.
-/
import Derived.Test.YtngifnnpimfimaaDoorCsP
import Derived.Test.YtngifnnpimfimaaDoorCsS
import Derived.Test.YtngifnnpimfimaaDoorTabH
import Derived.StillTailTactics
import Derived.Deep.Cut
import Derived.Maps.AppendAt
import Derived.Test.YtngifnnpimfimaaDoorQa
import Derived.Test.YtngifnnpimfimaaDoorQa
namespace Go.Proofs.YtngifnnpimfimaaDoor
open Go.RowKit


set_option maxRecDepth 100000 in
set_option maxHeartbeats 4000000 in
theorem weatherCostP_any (tw : Int) (rd : Bool) (w : World) (hg : SpanAt w 0 0 2) :
    Calls Tryd.prog 10 #[.int .i64 tw, .bool rd] w fun e w' => e = .returned (ib (spB 0 2 tw) (if rd = true then wRd tw else tw)) ∧ Kp w w' := by
  have C1 := Lib.hid (has_any 0 2 tw w)
  have C2 := Lib.hid (fun h (w : World) => weatherCost_any tw rd w (wth_true h))
  obtain ⟨g1, g2⟩ := hg
  unfold wthB at C2
  generalize (if rd = true then wRd tw else tw) = X at C2 ⊢
  cases hb : spB 0 2 tw
  · rw [hb] at C1
    clear C2 hb
    go_enter Tryd.func10, Tryd.ntmps10
    go_wp2_with fail
    refine C1.out.mono ?_
    rintro e1 w1 ⟨rfl, k1⟩
    go_wp2_with fail
    go_ret2
    exact ⟨rfl, k1⟩
  · rw [hb] at C1
    have C3 := Lib.hid (C2.out hb)
    clear C2 hb
    go_enter Tryd.func10, Tryd.ntmps10
    go_wp2_with fail
    refine C1.out.mono ?_
    rintro e1 w1 ⟨rfl, k1⟩
    go_wp2_with fail
    refine (C3.out _).mono ?_
    rintro e2 w2 ⟨rfl, rfl⟩
    go_wp2_with fail
    go_ret2
    exact ⟨rfl, k1⟩

set_option maxRecDepth 100000 in
set_option maxHeartbeats 4000000 in
theorem specWeatherCost_any (tw : Int) (rd : Bool) (w : World) :
    Calls Tryd.prog 9 #[.int .i64 tw, .bool rd] w fun e w' => e = .returned (ib (spB 0 2 tw) (if rd = true then wRd tw else tw)) ∧ w = w' := by
  have C1 := Lib.hid (l1In_sp tw 0 2 w)
  have C2 := Lib.hid (fun h (w : World) => csWeather_any tw rd w (wth_true h))
  unfold wthB at C2
  generalize (if rd = true then wRd tw else tw) = X at C2 ⊢
  cases hb : spB 0 2 tw
  · rw [hb] at C1
    clear C2 hb
    go_enter Tryd.func9, Tryd.ntmps9
    go_wp2_with fail
    refine C1.out.mono ?_
    rintro e1 w1 ⟨rfl, rfl⟩
    go_wp2_with fail
    go_ret2
    exact ⟨rfl, rfl⟩
  · rw [hb] at C1
    have C3 := Lib.hid (C2.out hb)
    clear C2 hb
    go_enter Tryd.func9, Tryd.ntmps9
    go_wp2_with fail
    refine C1.out.mono ?_
    rintro e1 w1 ⟨rfl, rfl⟩
    go_wp2_with fail
    refine (C3.out _).mono ?_
    rintro e2 w2 ⟨rfl, rfl⟩
    go_wp2_with fail
    go_ret2
    exact ⟨rfl, rfl⟩

end Go.Proofs.YtngifnnpimfimaaDoor
