/-
 Texts of this seat in one module: UnL.
-/
import Derived.Test.YtacgknllagdkoaaGreatDoorQo
/-
 The program's test of a state, alone and with its board; what it answers for both. Nothing that was there is changed. The named variables hold what the program's text lays.
-/
namespace Go.Proofs.YtacgknllagdkoaaGreatDoor
open Go.RowKit
theorem keepu15 {W0 w w1:World} {p0 p1 p2 p3 p4 p5 p6 p7 p8 p9 p10 p11 p12 p13 p14:Addr} {v0 v1 v2 v3 v4 v5 v6 v7 v8 v9 v10 v11 v12 v13 v14:Value} (k:Kp w w1) (h:w.cell? p0=some v0∧w.cell? p1=some v1∧w.cell? p2=some v2∧w.cell? p3=some v3∧w.cell? p4=some v4∧w.cell? p5=some v5∧w.cell? p6=some v6∧w.cell? p7=some v7∧w.cell? p8=some v8∧w.cell? p9=some v9∧w.cell? p10=some v10∧w.cell? p11=some v11∧w.cell? p12=some v12∧w.cell? p13=some v13∧w.cell? p14=some v14∧Kp W0 w):w1.cell? p0=some v0∧w1.cell? p1=some v1∧w1.cell? p2=some v2∧w1.cell? p3=some v3∧w1.cell? p4=some v4∧w1.cell? p5=some v5∧w1.cell? p6=some v6∧w1.cell? p7=some v7∧w1.cell? p8=some v8∧w1.cell? p9=some v9∧w1.cell? p10=some v10∧w1.cell? p11=some v11∧w1.cell? p12=some v12∧w1.cell? p13=some v13∧w1.cell? p14=some v14∧Kp W0 w1 :=
 ⟨k.cell h.1,k.cell h.2.1,k.cell h.2.2.1,k.cell h.2.2.2.1,k.cell h.2.2.2.2.1,k.cell h.2.2.2.2.2.1,k.cell h.2.2.2.2.2.2.1,k.cell h.2.2.2.2.2.2.2.1,k.cell h.2.2.2.2.2.2.2.2.1,k.cell h.2.2.2.2.2.2.2.2.2.1,k.cell h.2.2.2.2.2.2.2.2.2.2.1,k.cell h.2.2.2.2.2.2.2.2.2.2.2.1,k.cell h.2.2.2.2.2.2.2.2.2.2.2.2.1,k.cell h.2.2.2.2.2.2.2.2.2.2.2.2.2.1,k.cell h.2.2.2.2.2.2.2.2.2.2.2.2.2.2.1,h.2.2.2.2.2.2.2.2.2.2.2.2.2.2.2.trans k⟩
theorem isState_any (At Ak:Option Addr) (nt nk ct ck:Nat) (l:List Ter) (m:List Knd) (a b c d e W H:Int) (x r y:Value) (lt lr ld:List Int) (T Z:Int) (u:Value) (us:List Uni) (w:World) (hu:SpU w) (hB:BrdAt w At Ak nt nk l m x r y lt lr ld) (hok:brdOk ⟨l,m,a,b,c,d,e⟩ W H lt lr ld=true) (hS:StaAt w u us) :
  Calls Tryz.prog 135 #[bv (.slice At nt ct) (.slice Ak nk ck) a b c d e W H x r y,sv T Z u] w fun e' w'=>e'=.returned (.bool (staOk ⟨l,m,a,b,c,d,e⟩ W H lt T Z us))∧Kp w w':=by
 obtain⟨A,cp,rfl,_⟩:=hS.rd
 cases h1:spB 0 e T
 ·have q0:staOk ⟨l,m,a,b,c,d,e⟩ W H lt T Z us=false:=by simp [staOk,h1]
  rw [q0]
  exact isState_no1 At Ak nt nk ct ck a b c d e W H x r y T Z _ w hu h1
 cases h2:spB 0 2 Z
 ·have q0:staOk ⟨l,m,a,b,c,d,e⟩ W H lt T Z us=false:=by simp [staOk,h2]
  rw [q0]
  exact isState_no2 At Ak nt nk ct ck a b c d e W H x r y T Z _ w hu h1 h2
 cases h3:spB 0 12 (us.length:Int)
 ·have q0:staOk ⟨l,m,a,b,c,d,e⟩ W H lt T Z us=false:=by
   have:¬ us.length≤12:=by simp [spB] at h3;omega
   simp [staOk,this]
  rw [q0]
  exact isState_no3 At Ak nt nk ct ck a b c d e W H x r y T Z A us.length cp w hu h1 h2 h3
 ·have q0:staOk ⟨l,m,a,b,c,d,e⟩ W H lt T Z us=(us.all (uniOk l m W H lt) && us.all (stkOk us a)):=by
   have:us.length≤12:=by simp [spB] at h3;omega
   simp only [staOk,h1,h2,this,decide_true,Bool.true_and]
  rw [q0]
  exact isState_go At Ak nt nk ct ck l m a b c d e W H x r y lt lr ld T Z A us.length cp us w hu hB hok hS rfl h1 h2 h3
set_option maxRecDepth 100000 in
set_option maxHeartbeats 4000000 in
theorem isStateOn_any (At Ak:Option Addr) (nt nk ct ck:Nat) (l:List Ter) (m:List Knd) (a b c d e W H:Int) (x r y:Value) (lt lr ld:List Int) (T Z:Int) (u:Value) (us:List Uni) (w:World) (hs:Spans w) (ht:Tab w) (hu:SpU w) (hB:BrdAt w At Ak nt nk l m x r y lt lr ld) (hS:StaAt w u us) :
  Calls Tryz.prog 68 #[bv (.slice At nt ct) (.slice Ak nk ck) a b c d e W H x r y,sv T Z u] w fun e' w'=>e'=.returned (.bool (brdOk ⟨l,m,a,b,c,d,e⟩ W H lt lr ld && staOk ⟨l,m,a,b,c,d,e⟩ W H lt T Z us))∧Kp w w':=by
 have KA:Kp w ((w.alloc (.cells #[.slice At nt ct,.slice Ak nk ck,.int .i64 a,.int .i64 b,.int .i64 c,.int .i64 d,.int .i64 e,.int .i64 W,.int .i64 H,x,r,y] 47)).alloc (.cells #[.int .i64 T,.int .i64 Z,u] 51)):=((Kp.refl w).alloc _).alloc _
 have s0:cb12 ((w.alloc (.cells #[.slice At nt ct,.slice Ak nk ck,.int .i64 a,.int .i64 b,.int .i64 c,.int .i64 d,.int .i64 e,.int .i64 W,.int .i64 H,x,r,y] 47)).alloc (.cells #[.int .i64 T,.int .i64 Z,u] 51)) (w.heap.size) (.slice At nt ct) (.slice Ak nk ck) (.int .i64 a) (.int .i64 b) (.int .i64 c) (.int .i64 d) (.int .i64 e) (.int .i64 W) (.int .i64 H) (x) (r) (y) (cb3 ((w.alloc (.cells #[.slice At nt ct,.slice Ak nk ck,.int .i64 a,.int .i64 b,.int .i64 c,.int .i64 d,.int .i64 e,.int .i64 W,.int .i64 H,x,r,y] 47)).alloc (.cells #[.int .i64 T,.int .i64 Z,u] 51)) (w.heap.size+1) (.int .i64 T) (.int .i64 Z) (u) (Kp w ((w.alloc (.cells #[.slice At nt ct,.slice Ak nk ck,.int .i64 a,.int .i64 b,.int .i64 c,.int .i64 d,.int .i64 e,.int .i64 W,.int .i64 H,x,r,y] 47)).alloc (.cells #[.int .i64 T,.int .i64 Z,u] 51)))):=⟨by simp [go_sem],by simp [go_sem],by simp [go_sem],by simp [go_sem],by simp [go_sem],by simp [go_sem],by simp [go_sem],by simp [go_sem],by simp [go_sem],by simp [go_sem],by simp [go_sem],by simp [go_sem],by simp [go_sem],by simp [go_sem],by simp [go_sem],KA⟩
 have HB:=Lib.hid hB
 have HS:=Lib.hid hS
 have HU:=Lib.hid hu
 have C1:=Lib.hid (isBoard_any At Ak nt nk ct ck l m a b c d e W H x r y lt lr ld _ (hs.keep KA) (ht.keep KA) (hB.keep KA))
 cases ho:brdOk ⟨l,m,a,b,c,d,e⟩ W H lt lr ld
 ·rw [ho] at C1
  clear hs ht hu hB hS ho
  go_enter Tryz.func68,Tryz.ntmps68
  go_wp2_with fail
  refine C1.out.mono ?_
  rintro e1 w1 ⟨rfl,k1⟩
  go_wp2_with fail
  go_ret
  exact⟨rfl,KA.trans k1⟩
 ·rw [ho] at C1
  have C2:=Lib.hid (fun w h1 h2 h3=>isState_any At Ak nt nk ct ck l m a b c d e W H x r y lt lr ld T Z u us w h1 h2 ho h3)
  generalize staOk ⟨l,m,a,b,c,d,e⟩ W H lt T Z us=B at C2 ⊢
  clear hs ht hu hB hS ho
  go_enter Tryz.func68,Tryz.ntmps68
  go_wp2_with fail
  refine C1.out.mono ?_
  rintro e1 w1 ⟨rfl,k1⟩
  have s1:=keepu15 k1 s0
  clear s0 k1
  go_wp2_with fail
  refine(C2.out _ (HU.out.keep s1.2.2.2.2.2.2.2.2.2.2.2.2.2.2.2) (HB.out.keep s1.2.2.2.2.2.2.2.2.2.2.2.2.2.2.2) (HS.out.keep s1.2.2.2.2.2.2.2.2.2.2.2.2.2.2.2)).mono ?_
  rintro e2 w2 ⟨rfl,k2⟩
  go_wp2_with fail
  go_ret
  exact⟨rfl,s1.2.2.2.2.2.2.2.2.2.2.2.2.2.2.2.trans k2⟩
end Go.Proofs.YtacgknllagdkoaaGreatDoor
