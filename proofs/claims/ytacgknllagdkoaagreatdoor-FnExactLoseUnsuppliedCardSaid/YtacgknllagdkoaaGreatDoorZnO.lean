/-
 The side of the units in a hex, as the program tells it; OwnerOf of the program. Nothing that was there is changed. The named variables hold what the program's text lays.
-/
import Derived.Test.YtacgknllagdkoaaGreatDoorZnS
import Derived.Test.YtacgknllagdkoaaGreatDoorZnM
import Derived.Test.YtacgknllagdkoaaGreatDoorQa
import Derived.Test.YtacgknllagdkoaaGreatDoorQe
import Derived.Test.YtacgknllagdkoaaGreatDoorQj
import Derived.Test.YtacgknllagdkoaaGreatDoorQm
import Derived.Test.YtacgknllagdkoaaGreatDoorQp
namespace Go.Proofs.YtacgknllagdkoaaGreatDoor
open Go.RowKit
set_option maxRecDepth 100000 in
theorem ctIdx0 (x y:Value) (w:World):Sem.run Tryz.prog (Instr.index 235 (.agg #[x,y]) (.int .i64 0)) w=.ok x w:=rfl
set_option maxRecDepth 100000 in
theorem ctIdx1 (x y:Value) (w:World):Sem.run Tryz.prog (Instr.index 235 (.agg #[x,y]) (.int .i64 1)) w=.ok y w:=rfl
set_option maxRecDepth 100000 in
set_option maxHeartbeats 4000000 in
theorem ownerAt_any {r:Rul} {W H:Int} {lt:List Int} (T Z:Int) (u:Value) (us:List Uni) (i:Int) (w:World) (hS:StaAt w u us) (hst:staOk r W H lt T Z us=true) (hi0:0≤i) :
  Calls Tryz.prog 236 #[sv T Z u,.int .i64 i] w fun e' w'=>e'=.returned (.int .i64 (ownN us i))∧Kp w w':=by
 have KO:=Lib.hid (own_cases hst hi0)
 obtain⟨_,hn12,hall,_⟩:=staOk_parts hst
 have KA:Kp w (w.alloc (.cells #[.int .i64 T,.int .i64 Z,u] 51)):=(Kp.refl w).alloc _
 have CC:=Lib.hid (countsAt_any T Z u us i _ (hS.keep KA) (fun x hx=>(uniOk_side (hall x hx)).1) hn12)
 generalize cntS us i 0 us.length=c0 at KO CC
 generalize cntS us i 1 us.length=c1 at KO CC
 generalize ownN us i=X at KO ⊢
 clear hS hst hi0 hall hn12
 go_enter Tryz.func236,Tryz.ntmps236
 go_wp2_with fail
 refine CC.out.mono ?_
 rintro e3 w3 ⟨rfl,k3⟩
 have K3:Kp w w3:=KA.trans k3
 clear k3 CC KA
 go_wp2_with fail
 have ix0:=ctIdx0 (.int .i64 c0) (.int .i64 c1) w3
 have ix1:=ctIdx1 (.int .i64 c0) (.int .i64 c1) w3
 rcases KO.out with ⟨z0,z1,rfl⟩ | ⟨z0,z1,rfl⟩ | ⟨z0,z1,rfl⟩
 ·subst z0 z1
  go_loop [10] (fun t=>∃ q:Nat,q≤2∧t=.int .i64 q) (fun t=>2 - (intOf t).toNat)
  case atStart=>exact⟨0,by omega,rfl⟩
  case round =>
   obtain⟨q,hq,rfl⟩:=hrel
   have hq3:q=0∨q=1∨q=2:=by omega
   rcases hq3 with rfl | rfl | rfl
   ·go_wp2_with fail
    go_round
    case rel=>exact⟨1,by omega,by go_num⟩
    case measure=>simp [intOf]
   ·go_wp2_with fail
    go_round
    case rel=>exact⟨2,by omega,by go_num⟩
    case measure=>simp [intOf]
   ·go_wp2_with fail
    go_ret
    exact⟨rfl,K3⟩
 ·subst z1
  go_loop [10] (fun t=>t=.int .i64 0) (fun _=>0)
  case atStart=>rfl
  case round =>
   obtain rfl:=hrel
   go_wp2_with fail
   go_ret
   exact⟨rfl,K3⟩
 ·subst z0
  go_loop [10] (fun t=>∃ q:Nat,q≤1∧t=.int .i64 q) (fun t=>2 - (intOf t).toNat)
  case atStart=>exact⟨0,by omega,rfl⟩
  case round =>
   obtain⟨q,hq,rfl⟩:=hrel
   have hq3:q=0∨q=1:=by omega
   rcases hq3 with rfl | rfl
   ·go_wp2_with fail
    go_round
    case rel=>exact⟨1,by omega,by go_num⟩
    case measure=>simp [intOf]
   ·go_wp2_with fail
    go_ret
    exact⟨rfl,K3⟩
end Go.Proofs.YtacgknllagdkoaaGreatDoor
