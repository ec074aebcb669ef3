/-
 The reference's units that exert control on a hex, and zones. Nothing that was there is changed.
-/
import Derived.Test.YtacgknllagdkoaaGreatDoorZnM
import Derived.Test.YtacgknllagdkoaaGreatDoorQa
import Derived.Test.YtacgknllagdkoaaGreatDoorQe
import Derived.Test.YtacgknllagdkoaaGreatDoorQt
import Derived.Test.YtacgknllagdkoaaGreatDoorQa
namespace Go.Proofs.YtacgknllagdkoaaGreatDoor
open Go.RowKit
theorem keepe20 {W0 w w1:World} {p0 p1 p2 p3 p4 p5 p6 p7 p8 p9 p10 p11 p12 p13 p14 p15 p16 p17 p18 p19:Addr} {v0 v1 v2 v3 v4 v5 v6 v7 v8 v9 v10 v11 v12 v13 v14 v15 v16 v17 v18 v19:Value} (k:Kp w w1) (h:w.cell? p0=some v0∧w.cell? p1=some v1∧w.cell? p2=some v2∧w.cell? p3=some v3∧w.cell? p4=some v4∧w.cell? p5=some v5∧w.cell? p6=some v6∧w.cell? p7=some v7∧w.cell? p8=some v8∧w.cell? p9=some v9∧w.cell? p10=some v10∧w.cell? p11=some v11∧w.cell? p12=some v12∧w.cell? p13=some v13∧w.cell? p14=some v14∧w.cell? p15=some v15∧w.cell? p16=some v16∧w.cell? p17=some v17∧w.cell? p18=some v18∧w.cell? p19=some v19∧Kp W0 w):w1.cell? p0=some v0∧w1.cell? p1=some v1∧w1.cell? p2=some v2∧w1.cell? p3=some v3∧w1.cell? p4=some v4∧w1.cell? p5=some v5∧w1.cell? p6=some v6∧w1.cell? p7=some v7∧w1.cell? p8=some v8∧w1.cell? p9=some v9∧w1.cell? p10=some v10∧w1.cell? p11=some v11∧w1.cell? p12=some v12∧w1.cell? p13=some v13∧w1.cell? p14=some v14∧w1.cell? p15=some v15∧w1.cell? p16=some v16∧w1.cell? p17=some v17∧w1.cell? p18=some v18∧w1.cell? p19=some v19∧Kp W0 w1 :=
 ⟨k.cell h.1,k.cell h.2.1,k.cell h.2.2.1,k.cell h.2.2.2.1,k.cell h.2.2.2.2.1,k.cell h.2.2.2.2.2.1,k.cell h.2.2.2.2.2.2.1,k.cell h.2.2.2.2.2.2.2.1,k.cell h.2.2.2.2.2.2.2.2.1,k.cell h.2.2.2.2.2.2.2.2.2.1,k.cell h.2.2.2.2.2.2.2.2.2.2.1,k.cell h.2.2.2.2.2.2.2.2.2.2.2.1,k.cell h.2.2.2.2.2.2.2.2.2.2.2.2.1,k.cell h.2.2.2.2.2.2.2.2.2.2.2.2.2.1,k.cell h.2.2.2.2.2.2.2.2.2.2.2.2.2.2.1,k.cell h.2.2.2.2.2.2.2.2.2.2.2.2.2.2.2.1,k.cell h.2.2.2.2.2.2.2.2.2.2.2.2.2.2.2.2.1,k.cell h.2.2.2.2.2.2.2.2.2.2.2.2.2.2.2.2.2.1,k.cell h.2.2.2.2.2.2.2.2.2.2.2.2.2.2.2.2.2.2.1,k.cell h.2.2.2.2.2.2.2.2.2.2.2.2.2.2.2.2.2.2.2.1,h.2.2.2.2.2.2.2.2.2.2.2.2.2.2.2.2.2.2.2.2.trans k⟩
theorem keepe15 {W0 w w1:World} {p0 p1 p2 p3 p4 p5 p6 p7 p8 p9 p10 p11 p12 p13 p14:Addr} {v0 v1 v2 v3 v4 v5 v6 v7 v8 v9 v10 v11 v12 v13 v14:Value} (k:Kp w w1) (h:w.cell? p0=some v0∧w.cell? p1=some v1∧w.cell? p2=some v2∧w.cell? p3=some v3∧w.cell? p4=some v4∧w.cell? p5=some v5∧w.cell? p6=some v6∧w.cell? p7=some v7∧w.cell? p8=some v8∧w.cell? p9=some v9∧w.cell? p10=some v10∧w.cell? p11=some v11∧w.cell? p12=some v12∧w.cell? p13=some v13∧w.cell? p14=some v14∧Kp W0 w):w1.cell? p0=some v0∧w1.cell? p1=some v1∧w1.cell? p2=some v2∧w1.cell? p3=some v3∧w1.cell? p4=some v4∧w1.cell? p5=some v5∧w1.cell? p6=some v6∧w1.cell? p7=some v7∧w1.cell? p8=some v8∧w1.cell? p9=some v9∧w1.cell? p10=some v10∧w1.cell? p11=some v11∧w1.cell? p12=some v12∧w1.cell? p13=some v13∧w1.cell? p14=some v14∧Kp W0 w1 :=
 ⟨k.cell h.1,k.cell h.2.1,k.cell h.2.2.1,k.cell h.2.2.2.1,k.cell h.2.2.2.2.1,k.cell h.2.2.2.2.2.1,k.cell h.2.2.2.2.2.2.1,k.cell h.2.2.2.2.2.2.2.1,k.cell h.2.2.2.2.2.2.2.2.1,k.cell h.2.2.2.2.2.2.2.2.2.1,k.cell h.2.2.2.2.2.2.2.2.2.2.1,k.cell h.2.2.2.2.2.2.2.2.2.2.2.1,k.cell h.2.2.2.2.2.2.2.2.2.2.2.2.1,k.cell h.2.2.2.2.2.2.2.2.2.2.2.2.2.1,k.cell h.2.2.2.2.2.2.2.2.2.2.2.2.2.2.1,h.2.2.2.2.2.2.2.2.2.2.2.2.2.2.2.trans k⟩
set_option maxRecDepth 100000 in
set_option maxHeartbeats 4000000 in
theorem zExerts_any (At Ak:Option Addr) (nt nk ct ck:Nat) (l:List Ter) (m:List Knd) (a b c d e W H:Int) (x r y:Value) (lt lr ld:List Int) (T Z:Int) (u:Value) (us:List Uni) (k:Nat) (sx kx ax tx:Int) (i:Int) (w:World) (hB:BrdAt w At Ak nt nk l m x r y lt lr ld) (hS:StaAt w u us) (hok:brdOk ⟨l,m,a,b,c,d,e⟩ W H lt lr ld=true) (hst:staOk ⟨l,m,a,b,c,d,e⟩ W H lt T Z us=true) (hi:onI W H i=true) (hz:us[k]?=some ⟨sx,kx,ax,tx⟩) :
  Calls Tryz.prog 280 #[bv (.slice At nt ct) (.slice Ak nk ck) a b c d e W H x r y,sv T Z u,.int .i64 (k:Int),.int .i64 i] w fun e' w'=>e'=.returned (.bool (exB l m lt lr ld W i ⟨sx,kx,ax,tx⟩))∧Kp w w':=by
 obtain⟨g1,g2,g3,g4⟩:=mapOk_side (brdOk_map hok)
 have hlen:=mapOk_len (brdOk_map hok)
 have hu:uniOk l m W H lt ⟨sx,kx,ax,tx⟩=true:=(staOk_parts hst).2.2.1 _ (List.mem_of_getElem? hz)
 obtain⟨n,rfl,hn⟩:=onI_at hi hlen
 obtain⟨j,kd,e1,hj,hkd,hzz⟩:=uniOk_kind hu
 have has:=(uniOk_side hu).2.2.2
 simp only at e1 has
 subst e1
 have hmk:=hB.R.rk.1
 have HB:=Lib.hid hB
 obtain⟨gk,ok,rfl,hck⟩:=hB.R.rk.2 (by omega)
 obtain⟨_,_,_,_,qz,_⟩:=hck j kd hkd
 simp only at hzz
 rw [← hzz] at qz
 obtain⟨zb,hzb⟩:∃ zb,zb=znK m (j:Int):=⟨_,rfl⟩
 rw [← hzb] at qz
 obtain⟨A,cp,rfl,h⟩:=hS.rd
 have hk:=(List.getElem?_eq_some_iff.1 hz).1
 obtain⟨gu,ou,rfl,hc⟩:=h (by omega)
 obtain⟨q0,q1,q2,q3⟩:=hc k _ hz
 simp only at q0 q1 q2 q3
 obtain⟨N,hN⟩:∃ N,N=us.length:=⟨_,rfl⟩
 rw [← hN] at hk ⊢
 have hk':(k:Int)<N:=by omega
 have hjn:(j:Int)<nk:=by omega
 have hj0:j<nk:=by omega
 have CC:=Lib.hid (fun (w:World) hB=>bCost_any At (some ⟨gk,ok,none⟩) nt nk ct ck l m a b c d e W H x r y lt lr ld j n w hB hok hj hn)
 obtain⟨_,_,z,_,_,_,_,_,h6,h7,_⟩:=brd_hex hok hj hn
 have HE:Hid (exB l m lt lr ld W (n:Int) ⟨sx,(j:Int),ax,tx⟩=(decide (ax ≠ -1) && (zb && (decide (0<z) && rchB W lr ld ax n)))):=Lib.hid (by
  have h9:opnB l lt j n=decide (0<z):=by unfold opnB;rw [h6]
  unfold exB
  simp only [Int.toNat_natCast]
  rw [hzb,h9])
 rw [HE.out]
 rw [h6] at CC
 by_cases m2:ax=-1
 ·subst m2
  clear CC HE hB hS h hc hz hok hst hi hu hck hkd hzz hzb has hmk hlen h6 h7 hN
  have k2:Kp w ((w.alloc (.cells #[.slice At nt ct,.slice (some ⟨gk,ok,none⟩) nk ck,.int .i64 a,.int .i64 b,.int .i64 c,.int .i64 d,.int .i64 e,.int .i64 W,.int .i64 H,x,r,y] 47)).alloc (.cells #[.int .i64 T,.int .i64 Z,.slice (some ⟨gu,ou,none⟩) N cp] 51)):=((Kp.refl w).alloc _).alloc _
  have KA:Kp w (((w.alloc (.cells #[.slice At nt ct,.slice (some ⟨gk,ok,none⟩) nk ck,.int .i64 a,.int .i64 b,.int .i64 c,.int .i64 d,.int .i64 e,.int .i64 W,.int .i64 H,x,r,y] 47)).alloc (.cells #[.int .i64 T,.int .i64 Z,.slice (some ⟨gu,ou,none⟩) N cp] 51)).alloc (.cells #[.int .i64 sx,.int .i64 (j:Int),.int .i64 (-1),.int .i64 tx] 152)):=k2.alloc _
  have a0:=k2.cell q0
  have a1:=k2.cell q1
  have a2:=k2.cell q2
  have a3:=k2.cell q3
  have s0:cb12 (((w.alloc (.cells #[.slice At nt ct,.slice (some ⟨gk,ok,none⟩) nk ck,.int .i64 a,.int .i64 b,.int .i64 c,.int .i64 d,.int .i64 e,.int .i64 W,.int .i64 H,x,r,y] 47)).alloc (.cells #[.int .i64 T,.int .i64 Z,.slice (some ⟨gu,ou,none⟩) N cp] 51)).alloc (.cells #[.int .i64 sx,.int .i64 (j:Int),.int .i64 (-1),.int .i64 tx] 152)) (w.heap.size) (.slice At nt ct) (.slice (some ⟨gk,ok,none⟩) nk ck) (.int .i64 a) (.int .i64 b) (.int .i64 c) (.int .i64 d) (.int .i64 e) (.int .i64 W) (.int .i64 H) (x) (r) (y) (cb3 (((w.alloc (.cells #[.slice At nt ct,.slice (some ⟨gk,ok,none⟩) nk ck,.int .i64 a,.int .i64 b,.int .i64 c,.int .i64 d,.int .i64 e,.int .i64 W,.int .i64 H,x,r,y] 47)).alloc (.cells #[.int .i64 T,.int .i64 Z,.slice (some ⟨gu,ou,none⟩) N cp] 51)).alloc (.cells #[.int .i64 sx,.int .i64 (j:Int),.int .i64 (-1),.int .i64 tx] 152)) (w.heap.size+1) (.int .i64 T) (.int .i64 Z) (.slice (some ⟨gu,ou,none⟩) N cp) (cb4 (((w.alloc (.cells #[.slice At nt ct,.slice (some ⟨gk,ok,none⟩) nk ck,.int .i64 a,.int .i64 b,.int .i64 c,.int .i64 d,.int .i64 e,.int .i64 W,.int .i64 H,x,r,y] 47)).alloc (.cells #[.int .i64 T,.int .i64 Z,.slice (some ⟨gu,ou,none⟩) N cp] 51)).alloc (.cells #[.int .i64 sx,.int .i64 (j:Int),.int .i64 (-1),.int .i64 tx] 152)) (w.heap.size+1+1) (.int .i64 sx) (.int .i64 (j:Int)) (.int .i64 (-1)) (.int .i64 tx) ((((w.alloc (.cells #[.slice At nt ct,.slice (some ⟨gk,ok,none⟩) nk ck,.int .i64 a,.int .i64 b,.int .i64 c,.int .i64 d,.int .i64 e,.int .i64 W,.int .i64 H,x,r,y] 47)).alloc (.cells #[.int .i64 T,.int .i64 Z,.slice (some ⟨gu,ou,none⟩) N cp] 51)).alloc (.cells #[.int .i64 sx,.int .i64 (j:Int),.int .i64 (-1),.int .i64 tx] 152)).cell? ⟨gk,ok+j*6+4,none⟩=some (.bool zb)∧Kp w (((w.alloc (.cells #[.slice At nt ct,.slice (some ⟨gk,ok,none⟩) nk ck,.int .i64 a,.int .i64 b,.int .i64 c,.int .i64 d,.int .i64 e,.int .i64 W,.int .i64 H,x,r,y] 47)).alloc (.cells #[.int .i64 T,.int .i64 Z,.slice (some ⟨gu,ou,none⟩) N cp] 51)).alloc (.cells #[.int .i64 sx,.int .i64 (j:Int),.int .i64 (-1),.int .i64 tx] 152))))):=⟨by simp [go_sem],by simp [go_sem],by simp [go_sem],by simp [go_sem],by simp [go_sem],by simp [go_sem],by simp [go_sem],by simp [go_sem],by simp [go_sem],by simp [go_sem],by simp [go_sem],by simp [go_sem],by simp [go_sem],by simp [go_sem],by simp [go_sem],by simp [go_sem],by simp [go_sem],by simp [go_sem],by simp [go_sem],KA.cell qz,KA⟩
  clear k2 q0 q1 q2 q3 qz
  go_enter Tryz.func280,Tryz.ntmps280
  go_upto_region 2 with (fail)
  clear a0 a1 a2 a3
  generalize (((w.alloc (.cells #[.slice At nt ct,.slice (some ⟨gk,ok,none⟩) nk ck,.int .i64 a,.int .i64 b,.int .i64 c,.int .i64 d,.int .i64 e,.int .i64 W,.int .i64 H,x,r,y] 47)).alloc (.cells #[.int .i64 T,.int .i64 Z,.slice (some ⟨gu,ou,none⟩) N cp] 51)).alloc (.cells #[.int .i64 sx,.int .i64 (j:Int),.int .i64 (-1),.int .i64 tx] 152))=W0 at *
  go_wp2_with fail
  go_ret
  exact⟨ret_bool (by simp),s0.2.2.2.2.2.2.2.2.2.2.2.2.2.2.2.2.2.2.2.2⟩
 ·have on:=uniOk_on hu m2
  simp only at on
  have ha0:0≤ax:=by omega
  have ha1:¬ ax<0:=by omega
  have d1:decide (ax ≠ -1)=true:=by simpa using m2
  rw [d1,Bool.true_and]
  obtain⟨x0,x1⟩:=onI_true on
  have CN:Hid (∀ q:Nat,q<6→∀ w,Calls Tryz.prog 123 #[mp W H x r y,.int .i64 ax,.int .i64 (q:Int)] w fun e w'=>e=.returned (.int .i64 (orNo (nbM W H ax q) (nbI W ax q)))∧Kp w w'):=Lib.hid fun q hq w=>mNext_any W H x r y ax q w g1 g2 g3 g4 x0 x1 (by omega) (by omega)
  have CRI:Hid (∀ q:Nat,nbB W H ax q=true→∀ w,Lists w x r y lt lr ld→Calls Tryz.prog 228 #[mp W H x r y,.int .i64 ax,.int .i64 (q:Int)] w fun e w'=>e=.returned (.bool (hasB lr (edgI W ax q)))∧Kp w w'):=Lib.hid fun q hn w hL=>mRiver_any W H x r y lt lr ld ax q w hL g1 g2 g3 g4 hn
  have CRD:Hid (∀ q:Nat,nbB W H ax q=true→∀ w,Lists w x r y lt lr ld→Calls Tryz.prog 226 #[mp W H x r y,.int .i64 ax,.int .i64 (q:Int)] w fun e w'=>e=.returned (.bool (hasB ld (edgI W ax q)))∧Kp w w'):=Lib.hid fun q hn w hL=>mRoad_any W H x r y lt lr ld ax q w hL g1 g2 g3 g4 hn
  clear HE hB hS h hc hz hok hst hu hck hkd hzz hzb has hmk hlen h6 hN d1 m2
  cases zb
  ·clear CC CN CRI CRD
   have k2:Kp w ((w.alloc (.cells #[.slice At nt ct,.slice (some ⟨gk,ok,none⟩) nk ck,.int .i64 a,.int .i64 b,.int .i64 c,.int .i64 d,.int .i64 e,.int .i64 W,.int .i64 H,x,r,y] 47)).alloc (.cells #[.int .i64 T,.int .i64 Z,.slice (some ⟨gu,ou,none⟩) N cp] 51)):=((Kp.refl w).alloc _).alloc _
   have KA:Kp w (((w.alloc (.cells #[.slice At nt ct,.slice (some ⟨gk,ok,none⟩) nk ck,.int .i64 a,.int .i64 b,.int .i64 c,.int .i64 d,.int .i64 e,.int .i64 W,.int .i64 H,x,r,y] 47)).alloc (.cells #[.int .i64 T,.int .i64 Z,.slice (some ⟨gu,ou,none⟩) N cp] 51)).alloc (.cells #[.int .i64 sx,.int .i64 (j:Int),.int .i64 ax,.int .i64 tx] 152)):=k2.alloc _
   have a0:=k2.cell q0
   have a1:=k2.cell q1
   have a2:=k2.cell q2
   have a3:=k2.cell q3
   have s0:cb12 (((w.alloc (.cells #[.slice At nt ct,.slice (some ⟨gk,ok,none⟩) nk ck,.int .i64 a,.int .i64 b,.int .i64 c,.int .i64 d,.int .i64 e,.int .i64 W,.int .i64 H,x,r,y] 47)).alloc (.cells #[.int .i64 T,.int .i64 Z,.slice (some ⟨gu,ou,none⟩) N cp] 51)).alloc (.cells #[.int .i64 sx,.int .i64 (j:Int),.int .i64 ax,.int .i64 tx] 152)) (w.heap.size) (.slice At nt ct) (.slice (some ⟨gk,ok,none⟩) nk ck) (.int .i64 a) (.int .i64 b) (.int .i64 c) (.int .i64 d) (.int .i64 e) (.int .i64 W) (.int .i64 H) (x) (r) (y) (cb3 (((w.alloc (.cells #[.slice At nt ct,.slice (some ⟨gk,ok,none⟩) nk ck,.int .i64 a,.int .i64 b,.int .i64 c,.int .i64 d,.int .i64 e,.int .i64 W,.int .i64 H,x,r,y] 47)).alloc (.cells #[.int .i64 T,.int .i64 Z,.slice (some ⟨gu,ou,none⟩) N cp] 51)).alloc (.cells #[.int .i64 sx,.int .i64 (j:Int),.int .i64 ax,.int .i64 tx] 152)) (w.heap.size+1) (.int .i64 T) (.int .i64 Z) (.slice (some ⟨gu,ou,none⟩) N cp) (cb4 (((w.alloc (.cells #[.slice At nt ct,.slice (some ⟨gk,ok,none⟩) nk ck,.int .i64 a,.int .i64 b,.int .i64 c,.int .i64 d,.int .i64 e,.int .i64 W,.int .i64 H,x,r,y] 47)).alloc (.cells #[.int .i64 T,.int .i64 Z,.slice (some ⟨gu,ou,none⟩) N cp] 51)).alloc (.cells #[.int .i64 sx,.int .i64 (j:Int),.int .i64 ax,.int .i64 tx] 152)) (w.heap.size+1+1) (.int .i64 sx) (.int .i64 (j:Int)) (.int .i64 ax) (.int .i64 tx) ((((w.alloc (.cells #[.slice At nt ct,.slice (some ⟨gk,ok,none⟩) nk ck,.int .i64 a,.int .i64 b,.int .i64 c,.int .i64 d,.int .i64 e,.int .i64 W,.int .i64 H,x,r,y] 47)).alloc (.cells #[.int .i64 T,.int .i64 Z,.slice (some ⟨gu,ou,none⟩) N cp] 51)).alloc (.cells #[.int .i64 sx,.int .i64 (j:Int),.int .i64 ax,.int .i64 tx] 152)).cell? ⟨gk,ok+j*6+4,none⟩=some (.bool false)∧Kp w (((w.alloc (.cells #[.slice At nt ct,.slice (some ⟨gk,ok,none⟩) nk ck,.int .i64 a,.int .i64 b,.int .i64 c,.int .i64 d,.int .i64 e,.int .i64 W,.int .i64 H,x,r,y] 47)).alloc (.cells #[.int .i64 T,.int .i64 Z,.slice (some ⟨gu,ou,none⟩) N cp] 51)).alloc (.cells #[.int .i64 sx,.int .i64 (j:Int),.int .i64 ax,.int .i64 tx] 152))))):=⟨by simp [go_sem],by simp [go_sem],by simp [go_sem],by simp [go_sem],by simp [go_sem],by simp [go_sem],by simp [go_sem],by simp [go_sem],by simp [go_sem],by simp [go_sem],by simp [go_sem],by simp [go_sem],by simp [go_sem],by simp [go_sem],by simp [go_sem],by simp [go_sem],by simp [go_sem],by simp [go_sem],by simp [go_sem],KA.cell qz,KA⟩
   clear k2 q0 q1 q2 q3 qz
   go_enter Tryz.func280,Tryz.ntmps280
   go_upto_region 2 with (fail)
   clear a0 a1 a2 a3
   generalize (((w.alloc (.cells #[.slice At nt ct,.slice (some ⟨gk,ok,none⟩) nk ck,.int .i64 a,.int .i64 b,.int .i64 c,.int .i64 d,.int .i64 e,.int .i64 W,.int .i64 H,x,r,y] 47)).alloc (.cells #[.int .i64 T,.int .i64 Z,.slice (some ⟨gu,ou,none⟩) N cp] 51)).alloc (.cells #[.int .i64 sx,.int .i64 (j:Int),.int .i64 ax,.int .i64 tx] 152))=W0 at *
   go_wp2_with fail
   go_ret
   exact⟨ret_bool (by simp),s0.2.2.2.2.2.2.2.2.2.2.2.2.2.2.2.2.2.2.2.2⟩
  ·by_cases hzc:z=0
   ·subst hzc
    clear CN CRI CRD
    have k2:Kp w ((w.alloc (.cells #[.slice At nt ct,.slice (some ⟨gk,ok,none⟩) nk ck,.int .i64 a,.int .i64 b,.int .i64 c,.int .i64 d,.int .i64 e,.int .i64 W,.int .i64 H,x,r,y] 47)).alloc (.cells #[.int .i64 T,.int .i64 Z,.slice (some ⟨gu,ou,none⟩) N cp] 51)):=((Kp.refl w).alloc _).alloc _
    have KA:Kp w (((w.alloc (.cells #[.slice At nt ct,.slice (some ⟨gk,ok,none⟩) nk ck,.int .i64 a,.int .i64 b,.int .i64 c,.int .i64 d,.int .i64 e,.int .i64 W,.int .i64 H,x,r,y] 47)).alloc (.cells #[.int .i64 T,.int .i64 Z,.slice (some ⟨gu,ou,none⟩) N cp] 51)).alloc (.cells #[.int .i64 sx,.int .i64 (j:Int),.int .i64 ax,.int .i64 tx] 152)):=k2.alloc _
    have a0:=k2.cell q0
    have a1:=k2.cell q1
    have a2:=k2.cell q2
    have a3:=k2.cell q3
    have s0:cb12 (((w.alloc (.cells #[.slice At nt ct,.slice (some ⟨gk,ok,none⟩) nk ck,.int .i64 a,.int .i64 b,.int .i64 c,.int .i64 d,.int .i64 e,.int .i64 W,.int .i64 H,x,r,y] 47)).alloc (.cells #[.int .i64 T,.int .i64 Z,.slice (some ⟨gu,ou,none⟩) N cp] 51)).alloc (.cells #[.int .i64 sx,.int .i64 (j:Int),.int .i64 ax,.int .i64 tx] 152)) (w.heap.size) (.slice At nt ct) (.slice (some ⟨gk,ok,none⟩) nk ck) (.int .i64 a) (.int .i64 b) (.int .i64 c) (.int .i64 d) (.int .i64 e) (.int .i64 W) (.int .i64 H) (x) (r) (y) (cb3 (((w.alloc (.cells #[.slice At nt ct,.slice (some ⟨gk,ok,none⟩) nk ck,.int .i64 a,.int .i64 b,.int .i64 c,.int .i64 d,.int .i64 e,.int .i64 W,.int .i64 H,x,r,y] 47)).alloc (.cells #[.int .i64 T,.int .i64 Z,.slice (some ⟨gu,ou,none⟩) N cp] 51)).alloc (.cells #[.int .i64 sx,.int .i64 (j:Int),.int .i64 ax,.int .i64 tx] 152)) (w.heap.size+1) (.int .i64 T) (.int .i64 Z) (.slice (some ⟨gu,ou,none⟩) N cp) (cb4 (((w.alloc (.cells #[.slice At nt ct,.slice (some ⟨gk,ok,none⟩) nk ck,.int .i64 a,.int .i64 b,.int .i64 c,.int .i64 d,.int .i64 e,.int .i64 W,.int .i64 H,x,r,y] 47)).alloc (.cells #[.int .i64 T,.int .i64 Z,.slice (some ⟨gu,ou,none⟩) N cp] 51)).alloc (.cells #[.int .i64 sx,.int .i64 (j:Int),.int .i64 ax,.int .i64 tx] 152)) (w.heap.size+1+1) (.int .i64 sx) (.int .i64 (j:Int)) (.int .i64 ax) (.int .i64 tx) ((((w.alloc (.cells #[.slice At nt ct,.slice (some ⟨gk,ok,none⟩) nk ck,.int .i64 a,.int .i64 b,.int .i64 c,.int .i64 d,.int .i64 e,.int .i64 W,.int .i64 H,x,r,y] 47)).alloc (.cells #[.int .i64 T,.int .i64 Z,.slice (some ⟨gu,ou,none⟩) N cp] 51)).alloc (.cells #[.int .i64 sx,.int .i64 (j:Int),.int .i64 ax,.int .i64 tx] 152)).cell? ⟨gk,ok+j*6+4,none⟩=some (.bool true)∧Kp w (((w.alloc (.cells #[.slice At nt ct,.slice (some ⟨gk,ok,none⟩) nk ck,.int .i64 a,.int .i64 b,.int .i64 c,.int .i64 d,.int .i64 e,.int .i64 W,.int .i64 H,x,r,y] 47)).alloc (.cells #[.int .i64 T,.int .i64 Z,.slice (some ⟨gu,ou,none⟩) N cp] 51)).alloc (.cells #[.int .i64 sx,.int .i64 (j:Int),.int .i64 ax,.int .i64 tx] 152))))):=⟨by simp [go_sem],by simp [go_sem],by simp [go_sem],by simp [go_sem],by simp [go_sem],by simp [go_sem],by simp [go_sem],by simp [go_sem],by simp [go_sem],by simp [go_sem],by simp [go_sem],by simp [go_sem],by simp [go_sem],by simp [go_sem],by simp [go_sem],by simp [go_sem],by simp [go_sem],by simp [go_sem],by simp [go_sem],KA.cell qz,KA⟩
    clear k2 q0 q1 q2 q3 qz
    go_enter Tryz.func280,Tryz.ntmps280
    go_upto_region 2 with (fail)
    clear a0 a1 a2 a3
    generalize (((w.alloc (.cells #[.slice At nt ct,.slice (some ⟨gk,ok,none⟩) nk ck,.int .i64 a,.int .i64 b,.int .i64 c,.int .i64 d,.int .i64 e,.int .i64 W,.int .i64 H,x,r,y] 47)).alloc (.cells #[.int .i64 T,.int .i64 Z,.slice (some ⟨gu,ou,none⟩) N cp] 51)).alloc (.cells #[.int .i64 sx,.int .i64 (j:Int),.int .i64 ax,.int .i64 tx] 152))=W0 at *
    go_wp2_with fail
    refine(CC.out _ (HB.out.keep s0.2.2.2.2.2.2.2.2.2.2.2.2.2.2.2.2.2.2.2.2)).mono ?_
    rintro e1 w1 ⟨rfl,k1⟩
    have s1:=keepe20 k1 s0
    clear s0 k1
    go_wp2_with fail
    go_ret
    exact⟨ret_bool (by simp),s1.2.2.2.2.2.2.2.2.2.2.2.2.2.2.2.2.2.2.2.2⟩
   ·have hz1:(z == 0)=false:=by simpa using hzc
    have hz2:decide (0<z)=true:=by simp;omega
    rw [hz2,Bool.true_and,Bool.true_and]
    obtain⟨R,hR⟩:∃ R,R=rchB W lr ld ax n:=⟨_,rfl⟩
    rw [← hR]
    have HR:=Lib.hid hR
    clear hz2 hzc hR
    have k2:Kp w ((w.alloc (.cells #[.slice At nt ct,.slice (some ⟨gk,ok,none⟩) nk ck,.int .i64 a,.int .i64 b,.int .i64 c,.int .i64 d,.int .i64 e,.int .i64 W,.int .i64 H,x,r,y] 47)).alloc (.cells #[.int .i64 T,.int .i64 Z,.slice (some ⟨gu,ou,none⟩) N cp] 51)):=((Kp.refl w).alloc _).alloc _
    have KA:Kp w (((w.alloc (.cells #[.slice At nt ct,.slice (some ⟨gk,ok,none⟩) nk ck,.int .i64 a,.int .i64 b,.int .i64 c,.int .i64 d,.int .i64 e,.int .i64 W,.int .i64 H,x,r,y] 47)).alloc (.cells #[.int .i64 T,.int .i64 Z,.slice (some ⟨gu,ou,none⟩) N cp] 51)).alloc (.cells #[.int .i64 sx,.int .i64 (j:Int),.int .i64 ax,.int .i64 tx] 152)):=k2.alloc _
    have a0:=k2.cell q0
    have a1:=k2.cell q1
    have a2:=k2.cell q2
    have a3:=k2.cell q3
    have s0:cb12 (((w.alloc (.cells #[.slice At nt ct,.slice (some ⟨gk,ok,none⟩) nk ck,.int .i64 a,.int .i64 b,.int .i64 c,.int .i64 d,.int .i64 e,.int .i64 W,.int .i64 H,x,r,y] 47)).alloc (.cells #[.int .i64 T,.int .i64 Z,.slice (some ⟨gu,ou,none⟩) N cp] 51)).alloc (.cells #[.int .i64 sx,.int .i64 (j:Int),.int .i64 ax,.int .i64 tx] 152)) (w.heap.size) (.slice At nt ct) (.slice (some ⟨gk,ok,none⟩) nk ck) (.int .i64 a) (.int .i64 b) (.int .i64 c) (.int .i64 d) (.int .i64 e) (.int .i64 W) (.int .i64 H) (x) (r) (y) (cb3 (((w.alloc (.cells #[.slice At nt ct,.slice (some ⟨gk,ok,none⟩) nk ck,.int .i64 a,.int .i64 b,.int .i64 c,.int .i64 d,.int .i64 e,.int .i64 W,.int .i64 H,x,r,y] 47)).alloc (.cells #[.int .i64 T,.int .i64 Z,.slice (some ⟨gu,ou,none⟩) N cp] 51)).alloc (.cells #[.int .i64 sx,.int .i64 (j:Int),.int .i64 ax,.int .i64 tx] 152)) (w.heap.size+1) (.int .i64 T) (.int .i64 Z) (.slice (some ⟨gu,ou,none⟩) N cp) (cb4 (((w.alloc (.cells #[.slice At nt ct,.slice (some ⟨gk,ok,none⟩) nk ck,.int .i64 a,.int .i64 b,.int .i64 c,.int .i64 d,.int .i64 e,.int .i64 W,.int .i64 H,x,r,y] 47)).alloc (.cells #[.int .i64 T,.int .i64 Z,.slice (some ⟨gu,ou,none⟩) N cp] 51)).alloc (.cells #[.int .i64 sx,.int .i64 (j:Int),.int .i64 ax,.int .i64 tx] 152)) (w.heap.size+1+1) (.int .i64 sx) (.int .i64 (j:Int)) (.int .i64 ax) (.int .i64 tx) ((((w.alloc (.cells #[.slice At nt ct,.slice (some ⟨gk,ok,none⟩) nk ck,.int .i64 a,.int .i64 b,.int .i64 c,.int .i64 d,.int .i64 e,.int .i64 W,.int .i64 H,x,r,y] 47)).alloc (.cells #[.int .i64 T,.int .i64 Z,.slice (some ⟨gu,ou,none⟩) N cp] 51)).alloc (.cells #[.int .i64 sx,.int .i64 (j:Int),.int .i64 ax,.int .i64 tx] 152)).cell? ⟨gk,ok+j*6+4,none⟩=some (.bool true)∧Kp w (((w.alloc (.cells #[.slice At nt ct,.slice (some ⟨gk,ok,none⟩) nk ck,.int .i64 a,.int .i64 b,.int .i64 c,.int .i64 d,.int .i64 e,.int .i64 W,.int .i64 H,x,r,y] 47)).alloc (.cells #[.int .i64 T,.int .i64 Z,.slice (some ⟨gu,ou,none⟩) N cp] 51)).alloc (.cells #[.int .i64 sx,.int .i64 (j:Int),.int .i64 ax,.int .i64 tx] 152))))):=⟨by simp [go_sem],by simp [go_sem],by simp [go_sem],by simp [go_sem],by simp [go_sem],by simp [go_sem],by simp [go_sem],by simp [go_sem],by simp [go_sem],by simp [go_sem],by simp [go_sem],by simp [go_sem],by simp [go_sem],by simp [go_sem],by simp [go_sem],by simp [go_sem],by simp [go_sem],by simp [go_sem],by simp [go_sem],KA.cell qz,KA⟩
    clear k2 q0 q1 q2 q3 qz
    go_enter Tryz.func280,Tryz.ntmps280
    go_upto_region 2 with (fail)
    clear a0 a1 a2 a3
    generalize (((w.alloc (.cells #[.slice At nt ct,.slice (some ⟨gk,ok,none⟩) nk ck,.int .i64 a,.int .i64 b,.int .i64 c,.int .i64 d,.int .i64 e,.int .i64 W,.int .i64 H,x,r,y] 47)).alloc (.cells #[.int .i64 T,.int .i64 Z,.slice (some ⟨gu,ou,none⟩) N cp] 51)).alloc (.cells #[.int .i64 sx,.int .i64 (j:Int),.int .i64 ax,.int .i64 tx] 152))=W0 at *
    go_wp2_with fail
    refine(CC.out _ (HB.out.keep s0.2.2.2.2.2.2.2.2.2.2.2.2.2.2.2.2.2.2.2.2)).mono ?_
    rintro e1 w1 ⟨rfl,k1⟩
    have s1:=keepe20 k1 s0
    clear s0 k1 CC
    go_wp2_with fail
    go_loopw [10] (fun sq wx=>∃ q:Nat,q≤6∧sq=.int .i64 q∧Hid (noNb W ax n q)∧Kp w1 wx) (fun sq _=>6 - (intOf sq).toNat)
    case atStart=>exact⟨0,by omega,rfl,Lib.hid fun j hj=>absurd hj (by omega),Kp.refl _⟩
    case round =>
     obtain⟨q,hq,rfl,hno,kr⟩:=hrel
     have sr:=keepe20 kr s1
     by_cases hlt:q<6
     ·have hlt':(q:Int)<6:=by omega
      have C1:=Lib.hid (CN.out q hlt)
      by_cases hv:orNo (nbM W H ax q) (nbI W ax q)=n
      ·have e1:=rchB_at (lr:=lr) (ld:=ld) g1 hi g2 hlt hv
       have hnb:=nbB_at hi on hlt hv
       rw [hv] at C1
       have CI:=Lib.hid (CRI.out q hnb)
       have CD:=Lib.hid (CRD.out q hnb)
       unfold crsB at e1
       clear hv hnb hno
       cases hr:hasB lr (edgI W ax q)
       ·rw [hr] at CI
        have HR2:Hid (R=true):=Lib.hid (by rw [HR.out,e1,hr];rfl)
        clear CD hr e1
        go_wp2_with fail
        refine(C1.out _).mono ?_
        rintro e3 w3 ⟨rfl,k3⟩
        have s3:=keepe20 k3 sr
        clear sr k3
        go_wp2_with fail
        refine(CI.out _ (HB.out.L.keep s3.2.2.2.2.2.2.2.2.2.2.2.2.2.2.2.2.2.2.2.2)).mono ?_
        rintro e4 w4 ⟨rfl,k4⟩
        go_wp2_with fail
        go_ret
        exact⟨ret_bool (by simp [HR2.out]),s3.2.2.2.2.2.2.2.2.2.2.2.2.2.2.2.2.2.2.2.2.trans k4⟩
       ·rw [hr] at CI
        have HR2:Hid (R=hasB ld (edgI W ax q)):=Lib.hid (by rw [HR.out,e1,hr];rfl)
        clear hr e1
        generalize hasB ld (edgI W ax q)=D at CD HR2
        go_wp2_with fail
        refine(C1.out _).mono ?_
        rintro e3 w3 ⟨rfl,k3⟩
        have s3:=keepe20 k3 sr
        clear sr k3
        go_wp2_with fail
        refine(CI.out _ (HB.out.L.keep s3.2.2.2.2.2.2.2.2.2.2.2.2.2.2.2.2.2.2.2.2)).mono ?_
        rintro e4 w4 ⟨rfl,k4⟩
        have s4:=keepe20 k4 s3
        clear s3 k4
        go_wp2_with fail
        refine(CD.out _ (HB.out.L.keep s4.2.2.2.2.2.2.2.2.2.2.2.2.2.2.2.2.2.2.2.2)).mono ?_
        rintro e5 w5 ⟨rfl,k5⟩
        go_wp2_with fail
        go_ret
        exact⟨ret_bool (by simp [HR2.out]),s4.2.2.2.2.2.2.2.2.2.2.2.2.2.2.2.2.2.2.2.2.trans k5⟩
      ·have hno2:=Lib.hid (noNb_succ g1 hi g2 hno.out hv)
       have hv2:(orNo (nbM W H ax q) (nbI W ax q) == (n:Int))=false:=by simpa using hv
       generalize orNo (nbM W H ax q) (nbI W ax q)=V at C1 hv2
       clear hno hv
       go_wp2_with fail
       refine(C1.out _).mono ?_
       rintro e3 w3 ⟨rfl,k3⟩
       go_wp2_with fail
       go_roundw
       case rel=>exact⟨q+1,by omega,by go_num,hno2,kr.trans k3⟩
       case measure=>simp [intOf];omega
     ·obtain rfl:q=6:=by omega
      have HR2:Hid (R=false):=Lib.hid (by rw [HR.out,rchB_none hno.out])
      go_wp2_with fail
      go_ret
      exact⟨ret_bool (by simp [HR2.out]),sr.2.2.2.2.2.2.2.2.2.2.2.2.2.2.2.2.2.2.2.2⟩
set_option maxRecDepth 100000 in
set_option maxHeartbeats 4000000 in
theorem zSources_any (At Ak:Option Addr) (nt nk ct ck:Nat) (l:List Ter) (m:List Knd) (a b c d e W H:Int) (x r y:Value) (lt lr ld:List Int) (T Z:Int) (u:Value) (us:List Uni) (sd i:Int) (w:World) (hB:BrdAt w At Ak nt nk l m x r y lt lr ld) (hS:StaAt w u us) (hok:brdOk ⟨l,m,a,b,c,d,e⟩ W H lt lr ld=true) (hst:staOk ⟨l,m,a,b,c,d,e⟩ W H lt T Z us=true) (hi:onI W H i=true) :
  Calls Tryz.prog 264 #[bv (.slice At nt ct) (.slice Ak nk ck) a b c d e W H x r y,sv T Z u,.int .i64 sd,.int .i64 i] w fun e' w'=>∃ v,e'=.returned v∧OwnI w' w.heap.size v (srcL l m lt lr ld W us sd i)∧Kp w w':=by
 have CX:Hid (∀ (k:Nat) (sx kx ax tx:Int),us[k]?=some ⟨sx,kx,ax,tx⟩→∀ w,BrdAt w At Ak nt nk l m x r y lt lr ld→StaAt w u us→Calls Tryz.prog 280 #[bv (.slice At nt ct) (.slice Ak nk ck) a b c d e W H x r y,sv T Z u,.int .i64 (k:Int),.int .i64 i] w fun e' w'=>e'=.returned (.bool (exB l m lt lr ld W i ⟨sx,kx,ax,tx⟩))∧Kp w w'):=Lib.hid fun k sx kx ax tx hz w hB hS=>zExerts_any At Ak nt nk ct ck l m a b c d e W H x r y lt lr ld T Z u us k sx kx ax tx i w hB hS hok hst hi hz
 have hn12:=(staOk_parts hst).2.1
 have HF:Hid (∀ z:Uni,srcB l m lt lr ld W sd i z=(decide (z.s=sd) && exB l m lt lr ld W i z)):=Lib.hid fun z=>rfl
 have HL:Hid (srcL l m lt lr ld W us sd i=unL (srcB l m lt lr ld W sd i) us us.length):=Lib.hid rfl
 rw [HL.out]
 generalize srcB l m lt lr ld W sd i=F at HF HL ⊢
 clear HL
 have HB:=Lib.hid hB
 have HS:=Lib.hid hS
 obtain⟨A,cp,rfl,h⟩:=hS.rd
 have HA:=Lib.hid h
 generalize hN:us.length=N at *
 have HN:=Lib.hid hN
 have KA:Kp w ((w.alloc (.cells #[.slice At nt ct,.slice Ak nk ck,.int .i64 a,.int .i64 b,.int .i64 c,.int .i64 d,.int .i64 e,.int .i64 W,.int .i64 H,x,r,y] 47)).alloc (.cells #[.int .i64 T,.int .i64 Z,.slice A N cp] 51)):=((Kp.refl w).alloc _).alloc _
 have s0:cb12 ((w.alloc (.cells #[.slice At nt ct,.slice Ak nk ck,.int .i64 a,.int .i64 b,.int .i64 c,.int .i64 d,.int .i64 e,.int .i64 W,.int .i64 H,x,r,y] 47)).alloc (.cells #[.int .i64 T,.int .i64 Z,.slice A N cp] 51)) (w.heap.size) (.slice At nt ct) (.slice Ak nk ck) (.int .i64 a) (.int .i64 b) (.int .i64 c) (.int .i64 d) (.int .i64 e) (.int .i64 W) (.int .i64 H) (x) (r) (y) (cb3 ((w.alloc (.cells #[.slice At nt ct,.slice Ak nk ck,.int .i64 a,.int .i64 b,.int .i64 c,.int .i64 d,.int .i64 e,.int .i64 W,.int .i64 H,x,r,y] 47)).alloc (.cells #[.int .i64 T,.int .i64 Z,.slice A N cp] 51)) (w.heap.size+1) (.int .i64 T) (.int .i64 Z) (.slice A N cp) (Kp w ((w.alloc (.cells #[.slice At nt ct,.slice Ak nk ck,.int .i64 a,.int .i64 b,.int .i64 c,.int .i64 d,.int .i64 e,.int .i64 W,.int .i64 H,x,r,y] 47)).alloc (.cells #[.int .i64 T,.int .i64 Z,.slice A N cp] 51)))):=⟨by simp [go_sem],by simp [go_sem],by simp [go_sem],by simp [go_sem],by simp [go_sem],by simp [go_sem],by simp [go_sem],by simp [go_sem],by simp [go_sem],by simp [go_sem],by simp [go_sem],by simp [go_sem],by simp [go_sem],by simp [go_sem],by simp [go_sem],KA⟩
 obtain⟨j0,hj0,hz0,hs0,hb0⟩:=info_parts infoInt
 clear hB hS hok hst hi h hN KA
 go_enter Tryz.func264,Tryz.ntmps264
 go_wp2_with fail
 have hzw:((w.alloc (.cells #[.slice At nt ct,.slice Ak nk ck,.int .i64 a,.int .i64 b,.int .i64 c,.int .i64 d,.int .i64 e,.int .i64 W,.int .i64 H,x,r,y] 47)).alloc (.cells #[.int .i64 T,.int .i64 Z,.slice A N cp] 51)).heap.size=w.heap.size+2:=by simp
 generalize (w.alloc (.cells #[.slice At nt ct,.slice Ak nk ck,.int .i64 a,.int .i64 b,.int .i64 c,.int .i64 d,.int .i64 e,.int .i64 W,.int .i64 H,x,r,y] 47)).alloc (.cells #[.int .i64 T,.int .i64 Z,.slice A N cp] 51)=W1 at *
 go_loopw [9,10,15] (fun v _ sq wx=>∃ q:Nat,q≤N∧sq=.int .i64 q∧OwnI wx W1.heap.size v (unL F us q)∧Kp W1 wx) (fun _ _ sq _=>N - (intOf sq).toNat)
 case atStart=>exact⟨0,by omega,rfl,OwnI.nil _ _,Kp.refl _⟩
 case round =>
  obtain⟨q,hqn,rfl,ho,kr⟩:=hrel
  have K0:=s0.2.2.2.2.2.2.2.2.2.2.2.2.2.2.2
  by_cases hlt:q<N
  ·have hlt':(q:Int)<N:=by omega
   obtain⟨g,off,rfl,hc⟩:=HA.out (by omega)
   obtain⟨⟨sx,kx,ax,tx⟩,hx⟩:∃ x,us[q]?=some x:=⟨us[q]'(by have:=HN.out;omega),List.getElem?_eq_getElem _⟩
   obtain⟨a0,a1,a2,a3⟩:=(hc q _ hx).keep (K0.trans kr)
   simp only at a0 a1 a2 a3
   have HX:=Lib.hid hx
   have hln:=Lib.hid (unL_len F us q)
   have hf:=HF.out ⟨sx,kx,ax,tx⟩
   simp only at hf
   have kbw:Kp wr (wr.alloc (.cells #[.int .i64 sx,.int .i64 kx,.int .i64 ax,.int .i64 tx] 152)):=(Kp.refl wr).alloc _
   have HO:=Lib.hid (ho.keep kbw)
   have kr1:=kr.trans kbw
   have sr:=keepe15 kr s0
   clear hc hx ho
   by_cases hs:sx=sd
   ·subst hs
    rw [show decide (sx=sx)=true by simp,Bool.true_and] at hf
    have CQ:=Lib.hid (CX.out q sx kx ax tx HX.out)
    have sr1:=keepe15 kbw sr
    cases hF:exB l m lt lr ld W i ⟨sx,kx,ax,tx⟩
    ·rw [hF] at CQ hf
     have HS2:=Lib.hid (unL_no HX.out hf)
     clear hF hf
     go_upto_region 5 with (fail)
     clear a0 a1 a2 a3 sr
     generalize hW2:wr.alloc (.cells #[.int .i64 sx,.int .i64 kx,.int .i64 ax,.int .i64 tx] 152)=W2 at *
     have b0:W2.cell? ⟨wr.heap.size,0,none⟩=some (.int .i64 sx):=by rw [← hW2];simp [go_sem]
     clear hW2
     go_wp2_with fail
     refine(CQ.out _ (HB.out.keep sr1.2.2.2.2.2.2.2.2.2.2.2.2.2.2.2) (HS.out.keep sr1.2.2.2.2.2.2.2.2.2.2.2.2.2.2.2)).mono ?_
     rintro e2 w2 ⟨rfl,k2⟩
     go_wp2_with fail
     go_roundw
     case rel=>exact⟨q+1,by omega,by go_num,by rw [HS2.out];exact HO.out.keep k2,kr1.trans k2⟩
     case measure=>simp [intOf];omega
    ·rw [hF] at CQ hf
     have HS2:=Lib.hid (unL_yes HX.out hf)
     clear hF hf
     go_upto_region 5 with (fail)
     clear a0 a1 a2 a3 sr
     generalize hW2:wr.alloc (.cells #[.int .i64 sx,.int .i64 kx,.int .i64 ax,.int .i64 tx] 152)=W2 at *
     have b0:W2.cell? ⟨wr.heap.size,0,none⟩=some (.int .i64 sx):=by rw [← hW2];simp [go_sem]
     clear hW2
     go_wp2_with fail
     refine(CQ.out _ (HB.out.keep sr1.2.2.2.2.2.2.2.2.2.2.2.2.2.2.2) (HS.out.keep sr1.2.2.2.2.2.2.2.2.2.2.2.2.2.2.2)).mono ?_
     rintro e2 w2 ⟨rfl,k2⟩
     have HO1:=Lib.hid (HO.out.keep k2)
     have k3:=kr1.trans k2
     clear HO k2 sr1 b0
     go_wp2_with (at_builtin;refine wpList_append_own_at _ rfl (.tmp 31) (.tmp 33) 26 rfl (W1.heap.size) 3 j0 (.int .i64 0) 1 8 Tryz.underlying26 hj0 hz0 hs0 hb0 rfl (by decide) _ (unL F us q).length (cellsI (unL F us q)) rfl (World.ownsRow.alloc HO1.out _) ⟨w2.heap.size,0,none⟩ 1 1 [.int .i64 (q:Int)] rfl rfl (one_cell _ _ _) (by simp [Value.oneCell']) (by have:=hln.out;simp only [maxLen];omega) (by have:=hln.out;omega) (by have h5:=k3.size;simp;omega) ?_;intro v' w3 hown2 hgrow2 hnil2 hat2;clear hnil2 hat2;have K5:Kp W1 w3:=(k3.alloc _).grown hgrow2 (fun k e=>by have:=(World.ownsRow.lt HO1.out k e).1;omega);have O3:=Lib.hid (OwnI.snoc (x:=(q:Int)) hown2);clear hown2 hgrow2)
     go_roundw
     case rel=>exact⟨q+1,by omega,by go_num,by rw [HS2.out];exact O3.out,K5⟩
     case measure=>simp [intOf];omega
   ·have hsf:(sx == sd)=false:=by simpa using hs
    rw [show decide (sx=sd)=false by simpa using hs,Bool.false_and] at hf
    have HS2:=Lib.hid (unL_no HX.out hf)
    clear hf hs
    go_wp2_with fail
    go_roundw
    case rel=>exact⟨q+1,by omega,by go_num,by rw [HS2.out];exact HO.out,kr1⟩
    case measure=>simp [intOf];omega
  ·obtain rfl:q=N:=by omega
   go_wp2_with fail
   go_ret
   exact⟨_,rfl,ho.base (by omega),K0.trans kr⟩
set_option maxRecDepth 100000 in
set_option maxHeartbeats 4000000 in
theorem zIn_any (At Ak:Option Addr) (nt nk ct ck:Nat) (l:List Ter) (m:List Knd) (a b c d e W H:Int) (x r y:Value) (lt lr ld:List Int) (T Z:Int) (u:Value) (us:List Uni) (i sd:Int) (w:World) (hB:BrdAt w At Ak nt nk l m x r y lt lr ld) (hS:StaAt w u us) (hok:brdOk ⟨l,m,a,b,c,d,e⟩ W H lt lr ld=true) (hst:staOk ⟨l,m,a,b,c,d,e⟩ W H lt T Z us=true) (hi:onI W H i=true) :
  Calls Tryz.prog 233 #[bv (.slice At nt ct) (.slice Ak nk ck) a b c d e W H x r y,sv T Z u,.int .i64 i,.int .i64 sd] w fun e' w'=>e'=.returned (.bool (zonB l m lt lr ld W us sd i))∧Kp w w':=by
 have KA:Kp w ((w.alloc (.cells #[.slice At nt ct,.slice Ak nk ck,.int .i64 a,.int .i64 b,.int .i64 c,.int .i64 d,.int .i64 e,.int .i64 W,.int .i64 H,x,r,y] 47)).alloc (.cells #[.int .i64 T,.int .i64 Z,u] 51)):=((Kp.refl w).alloc _).alloc _
 have s0:cb12 ((w.alloc (.cells #[.slice At nt ct,.slice Ak nk ck,.int .i64 a,.int .i64 b,.int .i64 c,.int .i64 d,.int .i64 e,.int .i64 W,.int .i64 H,x,r,y] 47)).alloc (.cells #[.int .i64 T,.int .i64 Z,u] 51)) (w.heap.size) (.slice At nt ct) (.slice Ak nk ck) (.int .i64 a) (.int .i64 b) (.int .i64 c) (.int .i64 d) (.int .i64 e) (.int .i64 W) (.int .i64 H) (x) (r) (y) (cb3 ((w.alloc (.cells #[.slice At nt ct,.slice Ak nk ck,.int .i64 a,.int .i64 b,.int .i64 c,.int .i64 d,.int .i64 e,.int .i64 W,.int .i64 H,x,r,y] 47)).alloc (.cells #[.int .i64 T,.int .i64 Z,u] 51)) (w.heap.size+1) (.int .i64 T) (.int .i64 Z) (u) (Kp w ((w.alloc (.cells #[.slice At nt ct,.slice Ak nk ck,.int .i64 a,.int .i64 b,.int .i64 c,.int .i64 d,.int .i64 e,.int .i64 W,.int .i64 H,x,r,y] 47)).alloc (.cells #[.int .i64 T,.int .i64 Z,u] 51)))):=⟨by simp [go_sem],by simp [go_sem],by simp [go_sem],by simp [go_sem],by simp [go_sem],by simp [go_sem],by simp [go_sem],by simp [go_sem],by simp [go_sem],by simp [go_sem],by simp [go_sem],by simp [go_sem],by simp [go_sem],by simp [go_sem],by simp [go_sem],KA⟩
 have HB:=Lib.hid hB
 have HS:=Lib.hid hS
 have C1:=Lib.hid (fun (w:World) hB hS=>zSources_any At Ak nt nk ct ck l m a b c d e W H x r y lt lr ld T Z u us sd i w hB hS hok hst hi)
 have HE:=Lib.hid (srcL_any l m lt lr ld W us sd i)
 generalize srcL l m lt lr ld W us sd i=L at C1 HE
 generalize zonB l m lt lr ld W us sd i=R at HE ⊢
 clear hB hS hok hst hi
 go_enter Tryz.func233,Tryz.ntmps233
 go_wp2_with fail
 refine(C1.out _ (HB.out.keep KA) (HS.out.keep KA)).mono ?_
 rintro e1 w1 ⟨v,rfl,o1,k1⟩
 obtain⟨A1,c1,rfl⟩:=o1.slice
 have HE2:Hid (decide ((0:Int)<(L.length:Int))=R):=Lib.hid (by rw [← HE.out,decide_eq_decide];omega)
 clear o1
 go_wp2_with fail
 go_ret
 exact⟨ret_bool (by first | exact HE.out | exact HE2.out),KA.trans k1⟩
end Go.Proofs.YtacgknllagdkoaaGreatDoor
