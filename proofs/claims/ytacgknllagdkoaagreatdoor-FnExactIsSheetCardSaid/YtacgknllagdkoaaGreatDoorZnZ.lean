/-
 Zones, of the program: a unit of a state, the zone of its enemy; InZone, ZoneHexes, ZoneSources, ContestedHexes, MustStop. Nothing that was there is changed. The named variables hold what the program's text lays.
-/
import Derived.Test.YtacgknllagdkoaaGreatDoorZnM
import Derived.Test.YtacgknllagdkoaaGreatDoorQa
import Derived.Test.YtacgknllagdkoaaGreatDoorQj
import Derived.Test.YtacgknllagdkoaaGreatDoorQn
import Derived.Test.YtacgknllagdkoaaGreatDoorQe
import Derived.Test.YtacgknllagdkoaaGreatDoorQm
import Derived.Test.YtacgknllagdkoaaGreatDoorQp
namespace Go.Proofs.YtacgknllagdkoaaGreatDoor
open Go.RowKit
set_option maxRecDepth 100000 in
set_option maxHeartbeats 4000000 in
theorem isUnitNumber_any (T Z:Int) (u:Value) (us:List Uni) (un:Int) (w:World) (hS:StaAt w u us) :
  Calls Tryz.prog 168 #[sv T Z u,.int .i64 un] w fun e' w'=>e'=.returned (.bool (inB un us.length))∧Kp w w':=by
 obtain⟨A,cp,rfl,_⟩:=hS.rd
 have hb:=hS.b
 generalize us.length=N at hb ⊢
 clear hS
 by_cases h1:0≤un
 ·by_cases h2:un<N
  ·go_enter Tryz.func168,Tryz.ntmps168
   go_wp2_with fail
   go_ret
   exact⟨ret_bool (by simp [inB,h1,h2]),(Kp.refl w).alloc _⟩
  ·have d2:decide (un<(N:Int))=false:=by simpa using h2
   go_enter Tryz.func168,Tryz.ntmps168
   go_wp2_with fail
   go_ret
   exact⟨ret_bool (by simp [inB];omega),(Kp.refl w).alloc _⟩
 ·have d1:decide (0≤un)=false:=by simpa using h1
  go_enter Tryz.func168,Tryz.ntmps168
  go_wp2_with fail
  go_ret
  exact⟨ret_bool (by simp [inB];omega),(Kp.refl w).alloc _⟩
end Go.Proofs.YtacgknllagdkoaaGreatDoor
