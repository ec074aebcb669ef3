/-
  InZone, ZoneHexes, ZoneSources, ContestedHexes, MustStop of the reference. Nothing that was there is changed.
-/
import Derived.Test.YtacgknllagdkoaaGreatDoorZsE
import Derived.Test.YtacgknllagdkoaaGreatDoorQa
import Derived.Test.YtacgknllagdkoaaGreatDoorQa
namespace Go.Proofs.YtacgknllagdkoaaGreatDoor
open Go.RowKit
set_option maxRecDepth 100000 in
set_option maxHeartbeats 4000000 in
theorem sHas_any (At Ak:Option Addr) (nt nk ct ck:Nat) (l:List Ter) (m:List Knd) (a b c d e W H:Int) (x r y:Value) (lt lr ld:List Int) (T Z:Int) (u:Value) (us:List Uni) (un:Int) (w:World) (hB:BrdAt w At Ak nt nk l m x r y lt lr ld) (hS:StaAt w u us) :
    Calls Tryz.prog 147 #[bv (.slice At nt ct) (.slice Ak nk ck) a b c d e W H x r y,sv T Z u,.int .i64 un] w fun e' w'=>e'=.returned (.bool ((brdOk ⟨l,m,a,b,c,d,e⟩ W H lt lr ld && staOk ⟨l,m,a,b,c,d,e⟩ W H lt T Z us) && inB un us.length))∧Kp w w':=by
  obtain ⟨A,cp,rfl,_⟩:=hS.rd
  have hb:=hS.b
  have HB:=Lib.hid hB
  have HS:=Lib.hid hS
  have CG:=Lib.hid (fun (w:World) hB hS=>sGood_any At Ak nt nk ct ck l m a b c d e W H x r y lt lr ld T Z (.slice A us.length cp) us w hB hS)
  generalize hN:us.length=N at *
  have KA:Kp w ((w.alloc (.cells #[.slice At nt ct,.slice Ak nk ck,.int .i64 a,.int .i64 b,.int .i64 c,.int .i64 d,.int .i64 e,.int .i64 W,.int .i64 H,x,r,y] 47)).alloc (.cells #[.int .i64 T,.int .i64 Z,.slice A N cp] 51)):=((Kp.refl w).alloc _).alloc _
  have s0:cb12 ((w.alloc (.cells #[.slice At nt ct,.slice Ak nk ck,.int .i64 a,.int .i64 b,.int .i64 c,.int .i64 d,.int .i64 e,.int .i64 W,.int .i64 H,x,r,y] 47)).alloc (.cells #[.int .i64 T,.int .i64 Z,.slice A N cp] 51)) (w.heap.size) (.slice At nt ct) (.slice Ak nk ck) (.int .i64 a) (.int .i64 b) (.int .i64 c) (.int .i64 d) (.int .i64 e) (.int .i64 W) (.int .i64 H) (x) (r) (y) (cb3 ((w.alloc (.cells #[.slice At nt ct,.slice Ak nk ck,.int .i64 a,.int .i64 b,.int .i64 c,.int .i64 d,.int .i64 e,.int .i64 W,.int .i64 H,x,r,y] 47)).alloc (.cells #[.int .i64 T,.int .i64 Z,.slice A N cp] 51)) (w.heap.size + 1) (.int .i64 T) (.int .i64 Z) (.slice A N cp) (Kp w ((w.alloc (.cells #[.slice At nt ct,.slice Ak nk ck,.int .i64 a,.int .i64 b,.int .i64 c,.int .i64 d,.int .i64 e,.int .i64 W,.int .i64 H,x,r,y] 47)).alloc (.cells #[.int .i64 T,.int .i64 Z,.slice A N cp] 51)))):=⟨by simp [go_sem],by simp [go_sem],by simp [go_sem],by simp [go_sem],by simp [go_sem],by simp [go_sem],by simp [go_sem],by simp [go_sem],by simp [go_sem],by simp [go_sem],by simp [go_sem],by simp [go_sem],by simp [go_sem],by simp [go_sem],by simp [go_sem],KA⟩
  have C1:=Lib.hid (fun (w:World)=>l1In_lt un (N:Int) ((N:Int) - 1) w rfl)
  clear hB hS hN
  generalize inB un N=G at C1 ⊢
  cases hg:brdOk ⟨l,m,a,b,c,d,e⟩ W H lt lr ld && staOk ⟨l,m,a,b,c,d,e⟩ W H lt T Z us
  · rw [hg] at CG
    rw [Bool.false_and]
    clear hg C1
    go_enter Tryz.func147,Tryz.ntmps147
    go_wp2_with fail
    refine (CG.out _ (HB.out.keep KA) (HS.out.keep KA)).mono ?_
    rintro e1 w1 ⟨rfl,k1⟩
    go_wp2_with fail
    go_ret
    exact ⟨rfl,KA.trans k1⟩
  · rw [hg] at CG
    rw [Bool.true_and]
    clear hg
    go_enter Tryz.func147,Tryz.ntmps147
    go_wp2_with fail
    refine (CG.out _ (HB.out.keep KA) (HS.out.keep KA)).mono ?_
    rintro e1 w1 ⟨rfl,k1⟩
    have s1:=keepe15 k1 s0
    clear s0 k1
    go_wp2_with fail
    refine (C1.out _).mono ?_
    rintro e2 w2 ⟨rfl,rfl⟩
    go_wp2_with fail
    go_ret
    exact ⟨ret_bool (by simp),s1.2.2.2.2.2.2.2.2.2.2.2.2.2.2.2⟩
end Go.Proofs.YtacgknllagdkoaaGreatDoor
