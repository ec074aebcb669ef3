/-
  Zones, of the program: a unit of a state, the zone of its enemy; InZone, ZoneHexes, ZoneSources, ContestedHexes, MustStop. Nothing that was there is changed. The named variables hold what the program's text lays.
-/
import Derived.Test.YtacgknllagdkoaaGreatDoorZnM
import Derived.Test.YtacgknllagdkoaaGreatDoorQa
import Derived.Test.YtacgknllagdkoaaGreatDoorQj
import Derived.Test.YtacgknllagdkoaaGreatDoorQn
import Derived.Test.YtacgknllagdkoaaGreatDoorQe
import Derived.Test.YtacgknllagdkoaaGreatDoorQm
import Derived.Test.YtacgknllagdkoaaGreatDoorQp
namespace Go.Proofs.YtacgknllagdkoaaGreatDoor
open Go.RowKit
theorem keepy15 {W0 w w1:World} {p0 p1 p2 p3 p4 p5 p6 p7 p8 p9 p10 p11 p12 p13 p14:Addr} {v0 v1 v2 v3 v4 v5 v6 v7 v8 v9 v10 v11 v12 v13 v14:Value} (k:Kp w w1) (h:w.cell? p0=some v0∧w.cell? p1=some v1∧w.cell? p2=some v2∧w.cell? p3=some v3∧w.cell? p4=some v4∧w.cell? p5=some v5∧w.cell? p6=some v6∧w.cell? p7=some v7∧w.cell? p8=some v8∧w.cell? p9=some v9∧w.cell? p10=some v10∧w.cell? p11=some v11∧w.cell? p12=some v12∧w.cell? p13=some v13∧w.cell? p14=some v14∧Kp W0 w):w1.cell? p0=some v0∧w1.cell? p1=some v1∧w1.cell? p2=some v2∧w1.cell? p3=some v3∧w1.cell? p4=some v4∧w1.cell? p5=some v5∧w1.cell? p6=some v6∧w1.cell? p7=some v7∧w1.cell? p8=some v8∧w1.cell? p9=some v9∧w1.cell? p10=some v10∧w1.cell? p11=some v11∧w1.cell? p12=some v12∧w1.cell? p13=some v13∧w1.cell? p14=some v14∧Kp W0 w1 :=
  ⟨k.cell h.1,k.cell h.2.1,k.cell h.2.2.1,k.cell h.2.2.2.1,k.cell h.2.2.2.2.1,k.cell h.2.2.2.2.2.1,k.cell h.2.2.2.2.2.2.1,k.cell h.2.2.2.2.2.2.2.1,k.cell h.2.2.2.2.2.2.2.2.1,k.cell h.2.2.2.2.2.2.2.2.2.1,k.cell h.2.2.2.2.2.2.2.2.2.2.1,k.cell h.2.2.2.2.2.2.2.2.2.2.2.1,k.cell h.2.2.2.2.2.2.2.2.2.2.2.2.1,k.cell h.2.2.2.2.2.2.2.2.2.2.2.2.2.1,k.cell h.2.2.2.2.2.2.2.2.2.2.2.2.2.2.1,h.2.2.2.2.2.2.2.2.2.2.2.2.2.2.2.trans k⟩
set_option maxRecDepth 100000 in
set_option maxHeartbeats 4000000 in
theorem isUnitNumber_any (T Z:Int) (u:Value) (us:List Uni) (un:Int) (w:World) (hS:StaAt w u us) :
    Calls Tryz.prog 168 #[sv T Z u,.int .i64 un] w fun e' w'=>e'=.returned (.bool (inB un us.length))∧Kp w w':=by
  obtain ⟨A,cp,rfl,_⟩:=hS.rd
  have hb:=hS.b
  generalize us.length=N at hb ⊢
  clear hS
  by_cases h1:0 ≤ un
  · by_cases h2:un < N
    · go_enter Tryz.func168,Tryz.ntmps168
      go_wp2_with fail
      go_ret
      exact ⟨ret_bool (by simp [inB,h1,h2]),(Kp.refl w).alloc _⟩
    · have d2:decide (un < (N:Int))=false:=by simpa using h2
      go_enter Tryz.func168,Tryz.ntmps168
      go_wp2_with fail
      go_ret
      exact ⟨ret_bool (by simp [inB];omega),(Kp.refl w).alloc _⟩
  · have d1:decide (0 ≤ un)=false:=by simpa using h1
    go_enter Tryz.func168,Tryz.ntmps168
    go_wp2_with fail
    go_ret
    exact ⟨ret_bool (by simp [inB];omega),(Kp.refl w).alloc _⟩
set_option maxRecDepth 100000 in
set_option maxHeartbeats 4000000 in
theorem isUnitOn_any (At Ak:Option Addr) (nt nk ct ck:Nat) (l:List Ter) (m:List Knd) (a b c d e W H:Int) (x r y:Value) (lt lr ld:List Int) (T Z:Int) (u:Value) (us:List Uni) (un:Int) (w:World) (hs:Spans w) (ht:Tab w) (hu:SpU w) (hB:BrdAt w At Ak nt nk l m x r y lt lr ld) (hS:StaAt w u us) :
    Calls Tryz.prog 148 #[bv (.slice At nt ct) (.slice Ak nk ck) a b c d e W H x r y,sv T Z u,.int .i64 un] w fun e' w'=>e'=.returned (.bool ((brdOk ⟨l,m,a,b,c,d,e⟩ W H lt lr ld && staOk ⟨l,m,a,b,c,d,e⟩ W H lt T Z us) && inB un us.length))∧Kp w w':=by
  have KA:Kp w ((w.alloc (.cells #[.slice At nt ct,.slice Ak nk ck,.int .i64 a,.int .i64 b,.int .i64 c,.int .i64 d,.int .i64 e,.int .i64 W,.int .i64 H,x,r,y] 47)).alloc (.cells #[.int .i64 T,.int .i64 Z,u] 51)):=((Kp.refl w).alloc _).alloc _
  have s0:cb12 ((w.alloc (.cells #[.slice At nt ct,.slice Ak nk ck,.int .i64 a,.int .i64 b,.int .i64 c,.int .i64 d,.int .i64 e,.int .i64 W,.int .i64 H,x,r,y] 47)).alloc (.cells #[.int .i64 T,.int .i64 Z,u] 51)) (w.heap.size) (.slice At nt ct) (.slice Ak nk ck) (.int .i64 a) (.int .i64 b) (.int .i64 c) (.int .i64 d) (.int .i64 e) (.int .i64 W) (.int .i64 H) (x) (r) (y) (cb3 ((w.alloc (.cells #[.slice At nt ct,.slice Ak nk ck,.int .i64 a,.int .i64 b,.int .i64 c,.int .i64 d,.int .i64 e,.int .i64 W,.int .i64 H,x,r,y] 47)).alloc (.cells #[.int .i64 T,.int .i64 Z,u] 51)) (w.heap.size + 1) (.int .i64 T) (.int .i64 Z) (u) (Kp w ((w.alloc (.cells #[.slice At nt ct,.slice Ak nk ck,.int .i64 a,.int .i64 b,.int .i64 c,.int .i64 d,.int .i64 e,.int .i64 W,.int .i64 H,x,r,y] 47)).alloc (.cells #[.int .i64 T,.int .i64 Z,u] 51)))):=⟨by simp [go_sem],by simp [go_sem],by simp [go_sem],by simp [go_sem],by simp [go_sem],by simp [go_sem],by simp [go_sem],by simp [go_sem],by simp [go_sem],by simp [go_sem],by simp [go_sem],by simp [go_sem],by simp [go_sem],by simp [go_sem],by simp [go_sem],KA⟩
  have HSP:=Lib.hid hs
  have HT:=Lib.hid ht
  have HU:=Lib.hid hu
  have HB:=Lib.hid hB
  have HS:=Lib.hid hS
  have C0:=Lib.hid (fun (w:World) hs ht hu hB hS=>isStateOn_any At Ak nt nk ct ck l m a b c d e W H x r y lt lr ld T Z u us w hs ht hu hB hS)
  have C1:=Lib.hid (fun (w:World) hS=>isUnitNumber_any T Z u us un w hS)
  clear hs ht hu hB hS
  generalize inB un us.length=G at C1 ⊢
  cases hg:brdOk ⟨l,m,a,b,c,d,e⟩ W H lt lr ld && staOk ⟨l,m,a,b,c,d,e⟩ W H lt T Z us
  · rw [hg] at C0
    rw [Bool.false_and]
    clear hg C1
    go_enter Tryz.func148,Tryz.ntmps148
    go_wp2_with fail
    refine (C0.out _ (HSP.out.keep KA) (HT.out.keep KA) (HU.out.keep KA) (HB.out.keep KA) (HS.out.keep KA)).mono ?_
    rintro e1 w1 ⟨rfl,k1⟩
    go_wp2_with fail
    go_ret
    exact ⟨rfl,KA.trans k1⟩
  · rw [hg] at C0
    rw [Bool.true_and]
    clear hg
    go_enter Tryz.func148,Tryz.ntmps148
    go_wp2_with fail
    refine (C0.out _ (HSP.out.keep KA) (HT.out.keep KA) (HU.out.keep KA) (HB.out.keep KA) (HS.out.keep KA)).mono ?_
    rintro e1 w1 ⟨rfl,k1⟩
    have s1:=keepy15 k1 s0
    clear s0 k1
    go_wp2_with fail
    refine (C1.out _ (HS.out.keep s1.2.2.2.2.2.2.2.2.2.2.2.2.2.2.2)).mono ?_
    rintro e2 w2 ⟨rfl,k2⟩
    go_wp2_with fail
    go_ret
    exact ⟨ret_bool (by simp),s1.2.2.2.2.2.2.2.2.2.2.2.2.2.2.2.trans k2⟩
end Go.Proofs.YtacgknllagdkoaaGreatDoor
