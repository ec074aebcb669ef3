/-
 Sheets, of the program: the first fault of their orders, whether they are valid. Nothing that was there is changed. The named variables hold what the program's text lays.
-/
import Derived.Test.YtacgknllagdkoaaGreatDoorOrF
import Derived.Test.YtacgknllagdkoaaGreatDoorOrB
import Derived.StillTailTactics
import Derived.Deep.Cut
import Derived.Maps.AppendAt
import Derived.Test.YtacgknllagdkoaaGreatDoorQa
import Derived.Test.YtacgknllagdkoaaGreatDoorQa
namespace Go.Proofs.YtacgknllagdkoaaGreatDoor
open Go.RowKit
theorem keepg16 {W0 w w1:World} {p0 p1 p2 p3 p4 p5 p6 p7 p8 p9 p10 p11 p12 p13 p14 p15:Addr} {v0 v1 v2 v3 v4 v5 v6 v7 v8 v9 v10 v11 v12 v13 v14 v15:Value} (k:Kp w w1) (h:w.cell? p0=some v0∧w.cell? p1=some v1∧w.cell? p2=some v2∧w.cell? p3=some v3∧w.cell? p4=some v4∧w.cell? p5=some v5∧w.cell? p6=some v6∧w.cell? p7=some v7∧w.cell? p8=some v8∧w.cell? p9=some v9∧w.cell? p10=some v10∧w.cell? p11=some v11∧w.cell? p12=some v12∧w.cell? p13=some v13∧w.cell? p14=some v14∧w.cell? p15=some v15∧Kp W0 w):w1.cell? p0=some v0∧w1.cell? p1=some v1∧w1.cell? p2=some v2∧w1.cell? p3=some v3∧w1.cell? p4=some v4∧w1.cell? p5=some v5∧w1.cell? p6=some v6∧w1.cell? p7=some v7∧w1.cell? p8=some v8∧w1.cell? p9=some v9∧w1.cell? p10=some v10∧w1.cell? p11=some v11∧w1.cell? p12=some v12∧w1.cell? p13=some v13∧w1.cell? p14=some v14∧w1.cell? p15=some v15∧Kp W0 w1 :=
 ⟨k.cell h.1,k.cell h.2.1,k.cell h.2.2.1,k.cell h.2.2.2.1,k.cell h.2.2.2.2.1,k.cell h.2.2.2.2.2.1,k.cell h.2.2.2.2.2.2.1,k.cell h.2.2.2.2.2.2.2.1,k.cell h.2.2.2.2.2.2.2.2.1,k.cell h.2.2.2.2.2.2.2.2.2.1,k.cell h.2.2.2.2.2.2.2.2.2.2.1,k.cell h.2.2.2.2.2.2.2.2.2.2.2.1,k.cell h.2.2.2.2.2.2.2.2.2.2.2.2.1,k.cell h.2.2.2.2.2.2.2.2.2.2.2.2.2.1,k.cell h.2.2.2.2.2.2.2.2.2.2.2.2.2.2.1,k.cell h.2.2.2.2.2.2.2.2.2.2.2.2.2.2.2.1,h.2.2.2.2.2.2.2.2.2.2.2.2.2.2.2.2.trans k⟩
theorem keepg19 {W0 w w1:World} {p0 p1 p2 p3 p4 p5 p6 p7 p8 p9 p10 p11 p12 p13 p14 p15 p16 p17 p18:Addr} {v0 v1 v2 v3 v4 v5 v6 v7 v8 v9 v10 v11 v12 v13 v14 v15 v16 v17 v18:Value} (k:Kp w w1) (h:w.cell? p0=some v0∧w.cell? p1=some v1∧w.cell? p2=some v2∧w.cell? p3=some v3∧w.cell? p4=some v4∧w.cell? p5=some v5∧w.cell? p6=some v6∧w.cell? p7=some v7∧w.cell? p8=some v8∧w.cell? p9=some v9∧w.cell? p10=some v10∧w.cell? p11=some v11∧w.cell? p12=some v12∧w.cell? p13=some v13∧w.cell? p14=some v14∧w.cell? p15=some v15∧w.cell? p16=some v16∧w.cell? p17=some v17∧w.cell? p18=some v18∧Kp W0 w):w1.cell? p0=some v0∧w1.cell? p1=some v1∧w1.cell? p2=some v2∧w1.cell? p3=some v3∧w1.cell? p4=some v4∧w1.cell? p5=some v5∧w1.cell? p6=some v6∧w1.cell? p7=some v7∧w1.cell? p8=some v8∧w1.cell? p9=some v9∧w1.cell? p10=some v10∧w1.cell? p11=some v11∧w1.cell? p12=some v12∧w1.cell? p13=some v13∧w1.cell? p14=some v14∧w1.cell? p15=some v15∧w1.cell? p16=some v16∧w1.cell? p17=some v17∧w1.cell? p18=some v18∧Kp W0 w1 :=
 ⟨k.cell h.1,k.cell h.2.1,k.cell h.2.2.1,k.cell h.2.2.2.1,k.cell h.2.2.2.2.1,k.cell h.2.2.2.2.2.1,k.cell h.2.2.2.2.2.2.1,k.cell h.2.2.2.2.2.2.2.1,k.cell h.2.2.2.2.2.2.2.2.1,k.cell h.2.2.2.2.2.2.2.2.2.1,k.cell h.2.2.2.2.2.2.2.2.2.2.1,k.cell h.2.2.2.2.2.2.2.2.2.2.2.1,k.cell h.2.2.2.2.2.2.2.2.2.2.2.2.1,k.cell h.2.2.2.2.2.2.2.2.2.2.2.2.2.1,k.cell h.2.2.2.2.2.2.2.2.2.2.2.2.2.2.1,k.cell h.2.2.2.2.2.2.2.2.2.2.2.2.2.2.2.1,k.cell h.2.2.2.2.2.2.2.2.2.2.2.2.2.2.2.2.1,k.cell h.2.2.2.2.2.2.2.2.2.2.2.2.2.2.2.2.2.1,k.cell h.2.2.2.2.2.2.2.2.2.2.2.2.2.2.2.2.2.2.1,h.2.2.2.2.2.2.2.2.2.2.2.2.2.2.2.2.2.2.2.trans k⟩
theorem keepg17 {W0 w w1:World} {p0 p1 p2 p3 p4 p5 p6 p7 p8 p9 p10 p11 p12 p13 p14 p15 p16:Addr} {v0 v1 v2 v3 v4 v5 v6 v7 v8 v9 v10 v11 v12 v13 v14 v15 v16:Value} (k:Kp w w1) (h:w.cell? p0=some v0∧w.cell? p1=some v1∧w.cell? p2=some v2∧w.cell? p3=some v3∧w.cell? p4=some v4∧w.cell? p5=some v5∧w.cell? p6=some v6∧w.cell? p7=some v7∧w.cell? p8=some v8∧w.cell? p9=some v9∧w.cell? p10=some v10∧w.cell? p11=some v11∧w.cell? p12=some v12∧w.cell? p13=some v13∧w.cell? p14=some v14∧w.cell? p15=some v15∧w.cell? p16=some v16∧Kp W0 w):w1.cell? p0=some v0∧w1.cell? p1=some v1∧w1.cell? p2=some v2∧w1.cell? p3=some v3∧w1.cell? p4=some v4∧w1.cell? p5=some v5∧w1.cell? p6=some v6∧w1.cell? p7=some v7∧w1.cell? p8=some v8∧w1.cell? p9=some v9∧w1.cell? p10=some v10∧w1.cell? p11=some v11∧w1.cell? p12=some v12∧w1.cell? p13=some v13∧w1.cell? p14=some v14∧w1.cell? p15=some v15∧w1.cell? p16=some v16∧Kp W0 w1 :=
 ⟨k.cell h.1,k.cell h.2.1,k.cell h.2.2.1,k.cell h.2.2.2.1,k.cell h.2.2.2.2.1,k.cell h.2.2.2.2.2.1,k.cell h.2.2.2.2.2.2.1,k.cell h.2.2.2.2.2.2.2.1,k.cell h.2.2.2.2.2.2.2.2.1,k.cell h.2.2.2.2.2.2.2.2.2.1,k.cell h.2.2.2.2.2.2.2.2.2.2.1,k.cell h.2.2.2.2.2.2.2.2.2.2.2.1,k.cell h.2.2.2.2.2.2.2.2.2.2.2.2.1,k.cell h.2.2.2.2.2.2.2.2.2.2.2.2.2.1,k.cell h.2.2.2.2.2.2.2.2.2.2.2.2.2.2.1,k.cell h.2.2.2.2.2.2.2.2.2.2.2.2.2.2.2.1,k.cell h.2.2.2.2.2.2.2.2.2.2.2.2.2.2.2.2.1,h.2.2.2.2.2.2.2.2.2.2.2.2.2.2.2.2.2.trans k⟩
/-- What firstFault hands back. -/
def shV (a1 a2 a3 a4 a5:Addr) (r:Nat × Int):Value:=if r.2=0 then .nilIface else .iface 123 (.agg #[.int .i64 (r.1:Int),errV a1 a2 a3 a4 a5 r.2])
theorem shV_ok (a1 a2 a3 a4 a5:Addr) (n:Nat):shV a1 a2 a3 a4 a5 (n,0)=.nilIface:=rfl
theorem shV_no (a1 a2 a3 a4 a5:Addr) (n:Nat) {c:Int} (h:c ≠ 0):shV a1 a2 a3 a4 a5 (n,c)=.iface 123 (.agg #[.int .i64 (n:Int),errV a1 a2 a3 a4 a5 c]):=if_neg h
theorem errV_some (a1 a2 a3 a4 a5:Addr) {c:Int} (h0:0≤c) (h5:c≤5) (hc:c ≠ 0):∃ a,errV a1 a2 a3 a4 a5 c=.iface 325 (.pointer (some a)):=by
 have h:c=1∨c=2∨c=3∨c=4∨c=5:=by omega
 rcases h with rfl | rfl | rfl | rfl | rfl
 ·exact⟨a1,rfl⟩
 ·exact⟨a2,rfl⟩
 ·exact⟨a3,rfl⟩
 ·exact⟨a4,rfl⟩
 ·exact⟨a5,rfl⟩
set_option maxRecDepth 100000 in
set_option maxHeartbeats 4000000 in
theorem firstFault_any (At Ak:Option Addr) (nt nk ct ck:Nat) (l:List Ter) (m:List Knd) (a b c d e W H:Int) (x r y:Value) (lt lr ld:List Int) (T Z:Int) (u:Value) (us:List Uni) (sd:Int) (A:Option Addr) (co:Nat) (xs:List Odr) (a1 a2 a3 a4 a5:Addr) (w:World) (ht:Tab w) (hB:BrdAt w At Ak nt nk l m x r y lt lr ld) (hS:StaAt w u us) (he:Errs w a1 a2 a3 a4 a5) (hok:brdOk ⟨l,m,a,b,c,d,e⟩ W H lt lr ld=true) (hst:staOk ⟨l,m,a,b,c,d,e⟩ W H lt T Z us=true) (hx:RdO w A xs.length xs) (hsm:smO xs) :
  Calls Tryz.prog 80 #[.agg #[.slice At nt ct,.slice Ak nk ck,.int .i64 a,.int .i64 b,.int .i64 c,.int .i64 d,.int .i64 e,.int .i64 W,.int .i64 H,x,r,y,.int .i64 T,.int .i64 Z,u,.int .i64 sd],.slice A xs.length co] w fun e' w'=>e'=.returned (shV a1 a2 a3 a4 a5 (fstO (ordG l m lt lr ld W H b c Z us sd) (-1) 0 xs))∧Kp w w':=by
 have KA:Kp w (w.alloc (.cells #[.slice At nt ct,.slice Ak nk ck,.int .i64 a,.int .i64 b,.int .i64 c,.int .i64 d,.int .i64 e,.int .i64 W,.int .i64 H,x,r,y,.int .i64 T,.int .i64 Z,u,.int .i64 sd] 111)):=((Kp.refl w).alloc _)
 have s0:cb16 (w.alloc (.cells #[.slice At nt ct,.slice Ak nk ck,.int .i64 a,.int .i64 b,.int .i64 c,.int .i64 d,.int .i64 e,.int .i64 W,.int .i64 H,x,r,y,.int .i64 T,.int .i64 Z,u,.int .i64 sd] 111)) (w.heap.size) (.slice At nt ct) (.slice Ak nk ck) (.int .i64 a) (.int .i64 b) (.int .i64 c) (.int .i64 d) (.int .i64 e) (.int .i64 W) (.int .i64 H) (x) (r) (y) (.int .i64 T) (.int .i64 Z) (u) (.int .i64 sd) (Kp w (w.alloc (.cells #[.slice At nt ct,.slice Ak nk ck,.int .i64 a,.int .i64 b,.int .i64 c,.int .i64 d,.int .i64 e,.int .i64 W,.int .i64 H,x,r,y,.int .i64 T,.int .i64 Z,u,.int .i64 sd] 111))):=⟨by simp [go_sem],by simp [go_sem],by simp [go_sem],by simp [go_sem],by simp [go_sem],by simp [go_sem],by simp [go_sem],by simp [go_sem],by simp [go_sem],by simp [go_sem],by simp [go_sem],by simp [go_sem],by simp [go_sem],by simp [go_sem],by simp [go_sem],by simp [go_sem],KA⟩
 have HT:=Lib.hid ht
 have HB:=Lib.hid hB
 have HS:=Lib.hid hS
 have HE:=Lib.hid he
 have HN:=Lib.hid hx.2
 have HSM:=Lib.hid hsm
 have CF:Hid (∀ (bf:Int) (z:Odr) (vz:Value) (w:World),z.p.length≤1048576→Tab w→BrdAt w At Ak nt nk l m x r y lt lr ld→StaAt w u us→Errs w a1 a2 a3 a4 a5→RdI w vz z.p→Calls Tryz.prog 71 #[.agg #[.slice At nt ct,.slice Ak nk ck,.int .i64 a,.int .i64 b,.int .i64 c,.int .i64 d,.int .i64 e,.int .i64 W,.int .i64 H,x,r,y,.int .i64 T,.int .i64 Z,u,.int .i64 sd],.int .i64 bf,ov z.u vz z.a] w fun e' w'=>e'=.returned (errV a1 a2 a3 a4 a5 (ordG l m lt lr ld W H b c Z us sd bf z))∧Kp w w'):=Lib.hid fun bf z vz w hz ht hB hS he hp=>faultOf_any At Ak nt nk ct ck l m a b c d e W H x r y lt lr ld T Z u us sd bf z.u z.a vz z.p a1 a2 a3 a4 a5 w ht hB hS he hok hst hp hz
 have HBD:Hid (∀ bf z,0≤ordG l m lt lr ld W H b c Z us sd bf z∧ordG l m lt lr ld W H b c Z us sd bf z≤5):=Lib.hid fun bf z=>by unfold ordG;exact ordF_bd _ _ _ _ _ _ _ _ _ _
 obtain⟨C,hC⟩:∃ C,C=ordG l m lt lr ld W H b c Z us sd:=⟨_,rfl⟩
 rw [← hC] at CF HBD ⊢
 obtain⟨R,hR⟩:∃ R,R=fstO C (-1) 0 xs:=⟨_,rfl⟩
 rw [← hR]
 have HR:Hid (fstO C (-1) 0 (xs.drop 0)=R):=Lib.hid (by rw [hR];rfl)
 obtain⟨n,hn⟩:∃ n,n=xs.length:=⟨_,rfl⟩
 have HLN:=Lib.hid hn
 rw [← hn] at HN ⊢
 have hn1:n≤1048576:=by rw [hn];exact hsm.1
 clear ht hB hS he hok hst hx hsm hC hR hn KA
 go_enter Tryz.func80,Tryz.ntmps80
 go_wp2_with fail
 generalize (w.alloc (.cells #[.slice At nt ct,.slice Ak nk ck,.int .i64 a,.int .i64 b,.int .i64 c,.int .i64 d,.int .i64 e,.int .i64 W,.int .i64 H,x,r,y,.int .i64 T,.int .i64 Z,u,.int .i64 sd] 111))=W0 at *
 go_loopw [5,6,7,8,11] (fun sb _ _ _ sq wx=>∃ q:Nat,q≤n∧sq=.int .i64 q∧∃ bf:Int,sb=.int .i64 bf∧Hid (fstO C bf q (xs.drop q)=R)∧Kp W0 wx) (fun _ _ _ _ sq _=>n - (intOf sq).toNat)
 case atStart=>exact⟨0,by omega,rfl,-1,rfl,HR,Kp.refl _⟩
 case round =>
  obtain⟨q,hqn,rfl,bf,rfl,HF,kr⟩:=hrel
  have sr:=keepg16 kr s0
  by_cases hlt:q<n
  ·have hlt':(q:Int)<n:=by omega
   obtain⟨g,off,rfl,hc⟩:=HN.out (by omega)
   obtain⟨z,hz⟩:∃ z,xs[q]?=some z:=⟨xs[q]'(by have:=HLN.out;omega),List.getElem?_eq_getElem _⟩
   obtain⟨Ao,co,⟨q0,q1,q2⟩,ra⟩:=(hc q z hz).keep sr.2.2.2.2.2.2.2.2.2.2.2.2.2.2.2.2
   have HZ:=Lib.hid hz
   have hpl:=HSM.out.2 z (List.mem_of_getElem? hz)
   have CQ:=Lib.hid (fun w h1 h2 h3 h4 h5=>CF.out bf z (.slice Ao z.p.length co) w hpl h1 h2 h3 h4 h5)
   have hbd:=HBD.out bf z
   obtain⟨cc,hcc⟩:∃ cc,cc=C bf z:=⟨_,rfl⟩
   rw [← hcc] at CQ hbd
   have HCC:=Lib.hid hcc
   clear hc hz hpl hcc
   have HU:Hid (True):=Lib.hid trivial
   obtain⟨ux,px,ax⟩:=z
   simp only at q0 q1 q2 ra CQ
   generalize px.length=np at q1 ra CQ
   have RA:=Lib.hid ra
   clear ra
   by_cases h0:cc=0
   ·subst h0
    rw [errV_0] at CQ
    have HF2:Hid (fstO C ux (q+1) (xs.drop (q+1))=R):=Lib.hid ((fstO_step HZ.out HCC.out.symm).symm.trans HF.out)
    go_upto_region 5 with (fail)
    have k5:Kp wr (wr.alloc (.cells #[.int .i64 ux,.slice Ao np co,.int .i64 ax] 53)):=((Kp.refl wr).alloc _)
    have s5:cb16 (wr.alloc (.cells #[.int .i64 ux,.slice Ao np co,.int .i64 ax] 53)) (w.heap.size) (.slice At nt ct) (.slice Ak nk ck) (.int .i64 a) (.int .i64 b) (.int .i64 c) (.int .i64 d) (.int .i64 e) (.int .i64 W) (.int .i64 H) (x) (r) (y) (.int .i64 T) (.int .i64 Z) (u) (.int .i64 sd) (cb3 (wr.alloc (.cells #[.int .i64 ux,.slice Ao np co,.int .i64 ax] 53)) (wr.heap.size) (.int .i64 ux) (.slice Ao np co) (.int .i64 ax) (Kp w (wr.alloc (.cells #[.int .i64 ux,.slice Ao np co,.int .i64 ax] 53)))):=⟨k5.cell sr.1,k5.cell sr.2.1,k5.cell sr.2.2.1,k5.cell sr.2.2.2.1,k5.cell sr.2.2.2.2.1,k5.cell sr.2.2.2.2.2.1,k5.cell sr.2.2.2.2.2.2.1,k5.cell sr.2.2.2.2.2.2.2.1,k5.cell sr.2.2.2.2.2.2.2.2.1,k5.cell sr.2.2.2.2.2.2.2.2.2.1,k5.cell sr.2.2.2.2.2.2.2.2.2.2.1,k5.cell sr.2.2.2.2.2.2.2.2.2.2.2.1,k5.cell sr.2.2.2.2.2.2.2.2.2.2.2.2.1,k5.cell sr.2.2.2.2.2.2.2.2.2.2.2.2.2.1,k5.cell sr.2.2.2.2.2.2.2.2.2.2.2.2.2.2.1,k5.cell sr.2.2.2.2.2.2.2.2.2.2.2.2.2.2.2.1,by simp [go_sem],by simp [go_sem],by simp [go_sem],sr.2.2.2.2.2.2.2.2.2.2.2.2.2.2.2.2.trans k5⟩
    have R5:=Lib.hid (RA.out.keep k5)
    have K05:=kr.trans k5
    clear k5 sr RA q0 q1 q2 kr
    generalize (wr.alloc (.cells #[.int .i64 ux,.slice Ao np co,.int .i64 ax] 53))=W5 at *
    have r16:=range16 (s5.1) (s5.2.1) (s5.2.2.1) (s5.2.2.2.1) (s5.2.2.2.2.1) (s5.2.2.2.2.2.1) (s5.2.2.2.2.2.2.1) (s5.2.2.2.2.2.2.2.1) (s5.2.2.2.2.2.2.2.2.1) (s5.2.2.2.2.2.2.2.2.2.1) (s5.2.2.2.2.2.2.2.2.2.2.1) (s5.2.2.2.2.2.2.2.2.2.2.2.1) (s5.2.2.2.2.2.2.2.2.2.2.2.2.1) (s5.2.2.2.2.2.2.2.2.2.2.2.2.2.1) (s5.2.2.2.2.2.2.2.2.2.2.2.2.2.2.1) (s5.2.2.2.2.2.2.2.2.2.2.2.2.2.2.2.1)
    go_wp2_with ((with_reducible refine load_m r16 Tryz.underlying111 ?_ ?_ ?_ ?_ ?_);exact infoCmd;rfl;rfl;rfl)
    refine(CQ.out _ (HT.out.keep s5.2.2.2.2.2.2.2.2.2.2.2.2.2.2.2.2.2.2.2) (HB.out.keep s5.2.2.2.2.2.2.2.2.2.2.2.2.2.2.2.2.2.2.2) (HS.out.keep s5.2.2.2.2.2.2.2.2.2.2.2.2.2.2.2.2.2.2.2) (HE.out.keep s5.2.2.2.2.2.2.2.2.2.2.2.2.2.2.2.2.2.2.2) R5.out).mono ?_
    rintro e6 w6 ⟨rfl,k6⟩
    have s6:=keepg19 k6 s5
    have K06:=K05.trans k6
    clear s5 k6 R5 r16
    go_wp2_with fail
    go_roundw
    case rel=>exact⟨q+1,by omega,by go_num,ux,rfl,HF2,K06⟩
    case measure=>simp [intOf];omega
   ·obtain⟨aa,haa⟩:=errV_some a1 a2 a3 a4 a5 hbd.1 hbd.2 h0
    have HST:Hid (shV a1 a2 a3 a4 a5 R=.iface 123 (.agg #[.int .i64 (q:Int),.iface 325 (.pointer (some aa))])):=Lib.hid (by
     rw [← HF.out,fstO_stop HZ.out (by rw [← HCC.out];exact h0),← HCC.out,shV_no a1 a2 a3 a4 a5 q h0,haa])
    rw [haa] at CQ
    clear haa hbd
    go_upto_region 5 with (fail)
    have k5:Kp wr (wr.alloc (.cells #[.int .i64 ux,.slice Ao np co,.int .i64 ax] 53)):=((Kp.refl wr).alloc _)
    have s5:cb16 (wr.alloc (.cells #[.int .i64 ux,.slice Ao np co,.int .i64 ax] 53)) (w.heap.size) (.slice At nt ct) (.slice Ak nk ck) (.int .i64 a) (.int .i64 b) (.int .i64 c) (.int .i64 d) (.int .i64 e) (.int .i64 W) (.int .i64 H) (x) (r) (y) (.int .i64 T) (.int .i64 Z) (u) (.int .i64 sd) (cb3 (wr.alloc (.cells #[.int .i64 ux,.slice Ao np co,.int .i64 ax] 53)) (wr.heap.size) (.int .i64 ux) (.slice Ao np co) (.int .i64 ax) (Kp w (wr.alloc (.cells #[.int .i64 ux,.slice Ao np co,.int .i64 ax] 53)))):=⟨k5.cell sr.1,k5.cell sr.2.1,k5.cell sr.2.2.1,k5.cell sr.2.2.2.1,k5.cell sr.2.2.2.2.1,k5.cell sr.2.2.2.2.2.1,k5.cell sr.2.2.2.2.2.2.1,k5.cell sr.2.2.2.2.2.2.2.1,k5.cell sr.2.2.2.2.2.2.2.2.1,k5.cell sr.2.2.2.2.2.2.2.2.2.1,k5.cell sr.2.2.2.2.2.2.2.2.2.2.1,k5.cell sr.2.2.2.2.2.2.2.2.2.2.2.1,k5.cell sr.2.2.2.2.2.2.2.2.2.2.2.2.1,k5.cell sr.2.2.2.2.2.2.2.2.2.2.2.2.2.1,k5.cell sr.2.2.2.2.2.2.2.2.2.2.2.2.2.2.1,k5.cell sr.2.2.2.2.2.2.2.2.2.2.2.2.2.2.2.1,by simp [go_sem],by simp [go_sem],by simp [go_sem],sr.2.2.2.2.2.2.2.2.2.2.2.2.2.2.2.2.trans k5⟩
    have R5:=Lib.hid (RA.out.keep k5)
    have K05:=kr.trans k5
    clear k5 sr RA q0 q1 q2 kr
    generalize (wr.alloc (.cells #[.int .i64 ux,.slice Ao np co,.int .i64 ax] 53))=W5 at *
    have r16:=range16 (s5.1) (s5.2.1) (s5.2.2.1) (s5.2.2.2.1) (s5.2.2.2.2.1) (s5.2.2.2.2.2.1) (s5.2.2.2.2.2.2.1) (s5.2.2.2.2.2.2.2.1) (s5.2.2.2.2.2.2.2.2.1) (s5.2.2.2.2.2.2.2.2.2.1) (s5.2.2.2.2.2.2.2.2.2.2.1) (s5.2.2.2.2.2.2.2.2.2.2.2.1) (s5.2.2.2.2.2.2.2.2.2.2.2.2.1) (s5.2.2.2.2.2.2.2.2.2.2.2.2.2.1) (s5.2.2.2.2.2.2.2.2.2.2.2.2.2.2.1) (s5.2.2.2.2.2.2.2.2.2.2.2.2.2.2.2.1)
    go_wp2_with ((with_reducible refine load_m r16 Tryz.underlying111 ?_ ?_ ?_ ?_ ?_);exact infoCmd;rfl;rfl;rfl)
    refine(CQ.out _ (HT.out.keep s5.2.2.2.2.2.2.2.2.2.2.2.2.2.2.2.2.2.2.2) (HB.out.keep s5.2.2.2.2.2.2.2.2.2.2.2.2.2.2.2.2.2.2.2) (HS.out.keep s5.2.2.2.2.2.2.2.2.2.2.2.2.2.2.2.2.2.2.2) (HE.out.keep s5.2.2.2.2.2.2.2.2.2.2.2.2.2.2.2.2.2.2.2) R5.out).mono ?_
    rintro e6 w6 ⟨rfl,k6⟩
    have s6:=keepg19 k6 s5
    have K06:=K05.trans k6
    clear s5 k6 R5 r16
    go_wp2_with fail
    rw [HST.out]
    go_ret
    exact⟨rfl,s6.2.2.2.2.2.2.2.2.2.2.2.2.2.2.2.2.2.2.2⟩
  ·obtain rfl:q=n:=by omega
   have HST:Hid (shV a1 a2 a3 a4 a5 R=.nilIface):=Lib.hid (by
    have h:=HF.out
    rw [HLN.out,fstO_end] at h
    rw [← h]
    rfl)
   go_wp2_with fail
   rw [HST.out]
   go_ret
   exact⟨rfl,sr.2.2.2.2.2.2.2.2.2.2.2.2.2.2.2.2⟩
theorem keepg6 {W0 w w1:World} {p0 p1 p2 p3 p4 p5:Addr} {v0 v1 v2 v3 v4 v5:Value} (k:Kp w w1) (h:w.cell? p0=some v0∧w.cell? p1=some v1∧w.cell? p2=some v2∧w.cell? p3=some v3∧w.cell? p4=some v4∧w.cell? p5=some v5∧Kp W0 w):w1.cell? p0=some v0∧w1.cell? p1=some v1∧w1.cell? p2=some v2∧w1.cell? p3=some v3∧w1.cell? p4=some v4∧w1.cell? p5=some v5∧Kp W0 w1 :=
 ⟨k.cell h.1,k.cell h.2.1,k.cell h.2.2.1,k.cell h.2.2.2.1,k.cell h.2.2.2.2.1,k.cell h.2.2.2.2.2.1,h.2.2.2.2.2.2.trans k⟩
set_option maxRecDepth 100000 in
set_option maxHeartbeats 4000000 in
theorem hasSheetLimits_any (sd:Int) (A:Option Addr) (n co:Nat) (w:World) (hu:SpU w) :
  Calls Tryz.prog 79 #[hv sd (.slice A n co)] w fun e' w'=>e'=.returned (.bool (spB 0 1 sd && spB 0 12 (n:Int)))∧Kp w w':=by
 have KA:Kp w (w.alloc (.cells #[.int .i64 sd,.slice A n co] 67)):=(Kp.refl w).alloc _
 have s0:cb2 (w.alloc (.cells #[.int .i64 sd,.slice A n co] 67)) (w.heap.size) (.int .i64 sd) (.slice A n co) (cb2 (w.alloc (.cells #[.int .i64 sd,.slice A n co] 67)) 0 (.int .i64 0) (.int .i64 1) (cb2 (w.alloc (.cells #[.int .i64 sd,.slice A n co] 67)) 6 (.int .i64 0) (.int .i64 12) (Kp w (w.alloc (.cells #[.int .i64 sd,.slice A n co] 67))))):=⟨by simp [go_sem],by simp [go_sem],KA.cell hu.side.1,KA.cell hu.side.2,KA.cell hu.units.1,KA.cell hu.units.2,KA⟩
 have C1:=Lib.hid (fun (w:World)=>has_any 0 1 sd w)
 have C2:=Lib.hid (fun (w:World)=>has_any 0 12 (n:Int) w)
 clear hu KA
 generalize spB 0 12 (n:Int)=Q at C2 ⊢
 cases hg:spB 0 1 sd
 ·rw [hg] at C1
  clear hg C2
  go_enter Tryz.func79,Tryz.ntmps79
  go_wp2_with fail
  refine(C1.out _).mono ?_
  rintro e1 w1 ⟨rfl,k1⟩
  go_wp2_with fail
  go_ret
  exact⟨ret_bool (by simp),s0.2.2.2.2.2.2.trans k1⟩
 ·rw [hg] at C1
  clear hg
  go_enter Tryz.func79,Tryz.ntmps79
  go_wp2_with fail
  refine(C1.out _).mono ?_
  rintro e1 w1 ⟨rfl,k1⟩
  have s1:=keepg6 k1 s0
  clear s0 k1
  go_wp2_with fail
  refine(C2.out _).mono ?_
  rintro e2 w2 ⟨rfl,k2⟩
  go_wp2_with fail
  go_ret
  exact⟨ret_bool (by simp),s1.2.2.2.2.2.2.trans k2⟩
set_option maxRecDepth 100000 in
set_option maxHeartbeats 4000000 in
theorem isSheet_any (At Ak:Option Addr) (nt nk ct ck:Nat) (l:List Ter) (m:List Knd) (a b c d e W H:Int) (x r y:Value) (lt lr ld:List Int) (T Z:Int) (u:Value) (us:List Uni) (sd:Int) (v:Value) (xs:List Odr) (a1 a2 a3 a4 a5:Addr) (w:World) (ht:Tab w) (hu:SpU w) (he:Errs w a1 a2 a3 a4 a5) (hB:BrdAt w At Ak nt nk l m x r y lt lr ld) (hS:StaAt w u us) (hok:brdOk ⟨l,m,a,b,c,d,e⟩ W H lt lr ld=true) (hst:staOk ⟨l,m,a,b,c,d,e⟩ W H lt T Z us=true) (hx:SheAt w v xs) (hsm:smO xs) :
  Calls Tryz.prog 84 #[bv (.slice At nt ct) (.slice Ak nk ck) a b c d e W H x r y,sv T Z u,hv sd v] w fun e' w'=>e'=.returned (.bool (shtB (ordG l m lt lr ld W H b c Z us sd) sd xs))∧Kp w w':=by
 obtain⟨A,co,rfl,hr⟩:=hx
 have HT:=Lib.hid ht
 have HU:=Lib.hid hu
 have HE:=Lib.hid he
 have HB:=Lib.hid hB
 have HS:=Lib.hid hS
 have HR:=Lib.hid hr
 have CL:=Lib.hid (fun (w:World) hu=>hasSheetLimits_any sd A xs.length co w hu)
 have CF:=Lib.hid (fun (w:World) ht hB hS he hx=>firstFault_any At Ak nt nk ct ck l m a b c d e W H x r y lt lr ld T Z u us sd A co xs a1 a2 a3 a4 a5 w ht hB hS he hok hst hx hsm)
 have HBD:=Lib.hid (fstO_bd (C:=ordG l m lt lr ld W H b c Z us sd) (fun bf z=>by unfold ordG;exact ordF_bd _ _ _ _ _ _ _ _ _ _) xs (-1) 0)
 unfold shtB
 generalize fstO (ordG l m lt lr ld W H b c Z us sd) (-1) 0 xs=RR at CF HBD ⊢
 generalize xs.length=n at *
 obtain⟨ri,rc⟩:=RR
 simp only at HBD ⊢
 have KA:Kp w (((w.alloc (.cells #[.slice At nt ct,.slice Ak nk ck,.int .i64 a,.int .i64 b,.int .i64 c,.int .i64 d,.int .i64 e,.int .i64 W,.int .i64 H,x,r,y] 47)).alloc (.cells #[.int .i64 T,.int .i64 Z,u] 51)).alloc (.cells #[.int .i64 sd,.slice A n co] 67)):=((((Kp.refl w).alloc _).alloc _).alloc _)
 have s0:cb12 (((w.alloc (.cells #[.slice At nt ct,.slice Ak nk ck,.int .i64 a,.int .i64 b,.int .i64 c,.int .i64 d,.int .i64 e,.int .i64 W,.int .i64 H,x,r,y] 47)).alloc (.cells #[.int .i64 T,.int .i64 Z,u] 51)).alloc (.cells #[.int .i64 sd,.slice A n co] 67)) (w.heap.size) (.slice At nt ct) (.slice Ak nk ck) (.int .i64 a) (.int .i64 b) (.int .i64 c) (.int .i64 d) (.int .i64 e) (.int .i64 W) (.int .i64 H) (x) (r) (y) (cb3 (((w.alloc (.cells #[.slice At nt ct,.slice Ak nk ck,.int .i64 a,.int .i64 b,.int .i64 c,.int .i64 d,.int .i64 e,.int .i64 W,.int .i64 H,x,r,y] 47)).alloc (.cells #[.int .i64 T,.int .i64 Z,u] 51)).alloc (.cells #[.int .i64 sd,.slice A n co] 67)) (w.heap.size+1) (.int .i64 T) (.int .i64 Z) (u) (cb2 (((w.alloc (.cells #[.slice At nt ct,.slice Ak nk ck,.int .i64 a,.int .i64 b,.int .i64 c,.int .i64 d,.int .i64 e,.int .i64 W,.int .i64 H,x,r,y] 47)).alloc (.cells #[.int .i64 T,.int .i64 Z,u] 51)).alloc (.cells #[.int .i64 sd,.slice A n co] 67)) (w.heap.size+1+1) (.int .i64 sd) (.slice A n co) (Kp w (((w.alloc (.cells #[.slice At nt ct,.slice Ak nk ck,.int .i64 a,.int .i64 b,.int .i64 c,.int .i64 d,.int .i64 e,.int .i64 W,.int .i64 H,x,r,y] 47)).alloc (.cells #[.int .i64 T,.int .i64 Z,u] 51)).alloc (.cells #[.int .i64 sd,.slice A n co] 67))))):=⟨by simp [go_sem],by simp [go_sem],by simp [go_sem],by simp [go_sem],by simp [go_sem],by simp [go_sem],by simp [go_sem],by simp [go_sem],by simp [go_sem],by simp [go_sem],by simp [go_sem],by simp [go_sem],by simp [go_sem],by simp [go_sem],by simp [go_sem],by simp [go_sem],by simp [go_sem],KA⟩
 clear ht hu he hB hS hr hok hst hsm KA
 cases hg:(spB 0 1 sd && spB 0 12 (n:Int))
 ·rw [hg] at CL
  rw [Bool.false_and]
  clear hg CF HBD
  go_enter Tryz.func84,Tryz.ntmps84
  go_wp2_with fail
  refine(CL.out _ (HU.out.keep s0.2.2.2.2.2.2.2.2.2.2.2.2.2.2.2.2.2)).mono ?_
  rintro e1 w1 ⟨rfl,k1⟩
  go_wp2_with fail
  go_ret
  exact⟨ret_bool (by simp),s0.2.2.2.2.2.2.2.2.2.2.2.2.2.2.2.2.2.trans k1⟩
 ·rw [hg] at CL
  rw [Bool.true_and]
  clear hg
  by_cases h0:rc=0
  ·subst h0
   rw [shV_ok] at CF
   go_enter Tryz.func84,Tryz.ntmps84
   go_wp2_with fail
   refine(CL.out _ (HU.out.keep s0.2.2.2.2.2.2.2.2.2.2.2.2.2.2.2.2.2)).mono ?_
   rintro e1 w1 ⟨rfl,k1⟩
   have s1:=keepg17 k1 s0
   clear s0 k1
   go_wp2_with fail
   refine(CF.out _ (HT.out.keep s1.2.2.2.2.2.2.2.2.2.2.2.2.2.2.2.2.2) (HB.out.keep s1.2.2.2.2.2.2.2.2.2.2.2.2.2.2.2.2.2) (HS.out.keep s1.2.2.2.2.2.2.2.2.2.2.2.2.2.2.2.2.2) (HE.out.keep s1.2.2.2.2.2.2.2.2.2.2.2.2.2.2.2.2.2) (HR.out.keep s1.2.2.2.2.2.2.2.2.2.2.2.2.2.2.2.2.2)).mono ?_
   rintro e2 w2 ⟨rfl,k2⟩
   go_wp2_with fail
   go_ret
   exact⟨ret_bool (by simp),s1.2.2.2.2.2.2.2.2.2.2.2.2.2.2.2.2.2.trans k2⟩
  ·rw [shV_no a1 a2 a3 a4 a5 ri h0] at CF
   rw [decide_eq_false h0]
   go_enter Tryz.func84,Tryz.ntmps84
   go_wp2_with fail
   refine(CL.out _ (HU.out.keep s0.2.2.2.2.2.2.2.2.2.2.2.2.2.2.2.2.2)).mono ?_
   rintro e1 w1 ⟨rfl,k1⟩
   have s1:=keepg17 k1 s0
   clear s0 k1
   go_wp2_with fail
   refine(CF.out _ (HT.out.keep s1.2.2.2.2.2.2.2.2.2.2.2.2.2.2.2.2.2) (HB.out.keep s1.2.2.2.2.2.2.2.2.2.2.2.2.2.2.2.2.2) (HS.out.keep s1.2.2.2.2.2.2.2.2.2.2.2.2.2.2.2.2.2) (HE.out.keep s1.2.2.2.2.2.2.2.2.2.2.2.2.2.2.2.2.2) (HR.out.keep s1.2.2.2.2.2.2.2.2.2.2.2.2.2.2.2.2.2)).mono ?_
   rintro e2 w2 ⟨rfl,k2⟩
   go_wp2_with fail
   go_ret
   exact⟨ret_bool (by simp),s1.2.2.2.2.2.2.2.2.2.2.2.2.2.2.2.2.2.trans k2⟩
set_option maxRecDepth 100000 in
set_option maxHeartbeats 4000000 in
theorem isSheetOn_any (At Ak:Option Addr) (nt nk ct ck:Nat) (l:List Ter) (m:List Knd) (a b c d e W H:Int) (x r y:Value) (lt lr ld:List Int) (T Z:Int) (u:Value) (us:List Uni) (sd:Int) (v:Value) (xs:List Odr) (a1 a2 a3 a4 a5:Addr) (w:World) (hs:Spans w) (ht:Tab w) (hu:SpU w) (he:Errs w a1 a2 a3 a4 a5) (hB:BrdAt w At Ak nt nk l m x r y lt lr ld) (hS:StaAt w u us) (hx:SheAt w v xs) (hsm:smO xs) :
  Calls Tryz.prog 90 #[bv (.slice At nt ct) (.slice Ak nk ck) a b c d e W H x r y,sv T Z u,hv sd v] w fun e' w'=>e'=.returned (.bool ((brdOk ⟨l,m,a,b,c,d,e⟩ W H lt lr ld && staOk ⟨l,m,a,b,c,d,e⟩ W H lt T Z us) && shtB (ordG l m lt lr ld W H b c Z us sd) sd xs))∧Kp w w':=by
 have KA:Kp w (((w.alloc (.cells #[.slice At nt ct,.slice Ak nk ck,.int .i64 a,.int .i64 b,.int .i64 c,.int .i64 d,.int .i64 e,.int .i64 W,.int .i64 H,x,r,y] 47)).alloc (.cells #[.int .i64 T,.int .i64 Z,u] 51)).alloc (.cells #[.int .i64 sd,v] 67)):=((((Kp.refl w).alloc _).alloc _).alloc _)
 have s0:cb12 (((w.alloc (.cells #[.slice At nt ct,.slice Ak nk ck,.int .i64 a,.int .i64 b,.int .i64 c,.int .i64 d,.int .i64 e,.int .i64 W,.int .i64 H,x,r,y] 47)).alloc (.cells #[.int .i64 T,.int .i64 Z,u] 51)).alloc (.cells #[.int .i64 sd,v] 67)) (w.heap.size) (.slice At nt ct) (.slice Ak nk ck) (.int .i64 a) (.int .i64 b) (.int .i64 c) (.int .i64 d) (.int .i64 e) (.int .i64 W) (.int .i64 H) (x) (r) (y) (cb3 (((w.alloc (.cells #[.slice At nt ct,.slice Ak nk ck,.int .i64 a,.int .i64 b,.int .i64 c,.int .i64 d,.int .i64 e,.int .i64 W,.int .i64 H,x,r,y] 47)).alloc (.cells #[.int .i64 T,.int .i64 Z,u] 51)).alloc (.cells #[.int .i64 sd,v] 67)) (w.heap.size+1) (.int .i64 T) (.int .i64 Z) (u) (cb2 (((w.alloc (.cells #[.slice At nt ct,.slice Ak nk ck,.int .i64 a,.int .i64 b,.int .i64 c,.int .i64 d,.int .i64 e,.int .i64 W,.int .i64 H,x,r,y] 47)).alloc (.cells #[.int .i64 T,.int .i64 Z,u] 51)).alloc (.cells #[.int .i64 sd,v] 67)) (w.heap.size+1+1) (.int .i64 sd) (v) (Kp w (((w.alloc (.cells #[.slice At nt ct,.slice Ak nk ck,.int .i64 a,.int .i64 b,.int .i64 c,.int .i64 d,.int .i64 e,.int .i64 W,.int .i64 H,x,r,y] 47)).alloc (.cells #[.int .i64 T,.int .i64 Z,u] 51)).alloc (.cells #[.int .i64 sd,v] 67))))):=⟨by simp [go_sem],by simp [go_sem],by simp [go_sem],by simp [go_sem],by simp [go_sem],by simp [go_sem],by simp [go_sem],by simp [go_sem],by simp [go_sem],by simp [go_sem],by simp [go_sem],by simp [go_sem],by simp [go_sem],by simp [go_sem],by simp [go_sem],by simp [go_sem],by simp [go_sem],KA⟩
 have HSP:=Lib.hid hs
 have HT:=Lib.hid ht
 have HU:=Lib.hid hu
 have HE:=Lib.hid he
 have HB:=Lib.hid hB
 have HS:=Lib.hid hS
 have HX:=Lib.hid hx
 have C0:=Lib.hid (fun (w:World) hs ht hu hB hS=>isStateOn_any At Ak nt nk ct ck l m a b c d e W H x r y lt lr ld T Z u us w hs ht hu hB hS)
 clear hs ht hu he hB hS hx KA
 cases hg:brdOk ⟨l,m,a,b,c,d,e⟩ W H lt lr ld && staOk ⟨l,m,a,b,c,d,e⟩ W H lt T Z us
 ·rw [hg] at C0
  rw [Bool.false_and]
  clear hg
  go_enter Tryz.func90,Tryz.ntmps90
  go_wp2_with fail
  refine(C0.out _ (HSP.out.keep s0.2.2.2.2.2.2.2.2.2.2.2.2.2.2.2.2.2) (HT.out.keep s0.2.2.2.2.2.2.2.2.2.2.2.2.2.2.2.2.2) (HU.out.keep s0.2.2.2.2.2.2.2.2.2.2.2.2.2.2.2.2.2) (HB.out.keep s0.2.2.2.2.2.2.2.2.2.2.2.2.2.2.2.2.2) (HS.out.keep s0.2.2.2.2.2.2.2.2.2.2.2.2.2.2.2.2.2)).mono ?_
  rintro e1 w1 ⟨rfl,k1⟩
  go_wp2_with fail
  go_ret
  exact⟨ret_bool (by simp),s0.2.2.2.2.2.2.2.2.2.2.2.2.2.2.2.2.2.trans k1⟩
 ·rw [hg] at C0
  rw [Bool.true_and]
  simp only [Bool.and_eq_true] at hg
  have CF:=Lib.hid (fun (w:World) ht hu he hB hS hx=>isSheet_any At Ak nt nk ct ck l m a b c d e W H x r y lt lr ld T Z u us sd v xs a1 a2 a3 a4 a5 w ht hu he hB hS hg.1 hg.2 hx hsm)
  generalize shtB (ordG l m lt lr ld W H b c Z us sd) sd xs=Q at CF ⊢
  clear hg hsm
  go_enter Tryz.func90,Tryz.ntmps90
  go_wp2_with fail
  refine(C0.out _ (HSP.out.keep s0.2.2.2.2.2.2.2.2.2.2.2.2.2.2.2.2.2) (HT.out.keep s0.2.2.2.2.2.2.2.2.2.2.2.2.2.2.2.2.2) (HU.out.keep s0.2.2.2.2.2.2.2.2.2.2.2.2.2.2.2.2.2) (HB.out.keep s0.2.2.2.2.2.2.2.2.2.2.2.2.2.2.2.2.2) (HS.out.keep s0.2.2.2.2.2.2.2.2.2.2.2.2.2.2.2.2.2)).mono ?_
  rintro e1 w1 ⟨rfl,k1⟩
  have s1:=keepg17 k1 s0
  clear s0 k1
  go_wp2_with fail
  refine(CF.out _ (HT.out.keep s1.2.2.2.2.2.2.2.2.2.2.2.2.2.2.2.2.2) (HU.out.keep s1.2.2.2.2.2.2.2.2.2.2.2.2.2.2.2.2.2) (HE.out.keep s1.2.2.2.2.2.2.2.2.2.2.2.2.2.2.2.2.2) (HB.out.keep s1.2.2.2.2.2.2.2.2.2.2.2.2.2.2.2.2.2) (HS.out.keep s1.2.2.2.2.2.2.2.2.2.2.2.2.2.2.2.2.2) (HX.out.keep s1.2.2.2.2.2.2.2.2.2.2.2.2.2.2.2.2.2)).mono ?_
  rintro e2 w2 ⟨rfl,k2⟩
  go_wp2_with fail
  go_ret
  exact⟨ret_bool (by simp),s1.2.2.2.2.2.2.2.2.2.2.2.2.2.2.2.2.2.trans k2⟩
set_option maxRecDepth 100000 in
set_option maxHeartbeats 4000000 in
theorem isSheetP_any (At Ak:Option Addr) (nt nk ct ck:Nat) (l:List Ter) (m:List Knd) (a b c d e W H:Int) (x r y:Value) (lt lr ld:List Int) (T Z:Int) (u:Value) (us:List Uni) (sd:Int) (v:Value) (xs:List Odr) (a1 a2 a3 a4 a5:Addr) (w:World) (hs:Spans w) (ht:Tab w) (hu:SpU w) (he:Errs w a1 a2 a3 a4 a5) (hB:BrdAt w At Ak nt nk l m x r y lt lr ld) (hS:StaAt w u us) (hx:SheAt w v xs) (hsm:smO xs) :
  Calls Tryz.prog 31 #[bv (.slice At nt ct) (.slice Ak nk ck) a b c d e W H x r y,sv T Z u,hv sd v] w fun e' w'=>e'=.returned (.tuple #[.bool ((brdOk ⟨l,m,a,b,c,d,e⟩ W H lt lr ld && staOk ⟨l,m,a,b,c,d,e⟩ W H lt T Z us) && shtB (ordG l m lt lr ld W H b c Z us sd) sd xs),.bool (brdOk ⟨l,m,a,b,c,d,e⟩ W H lt lr ld && staOk ⟨l,m,a,b,c,d,e⟩ W H lt T Z us)])∧Kp w w':=by
 have KA:Kp w (((w.alloc (.cells #[.slice At nt ct,.slice Ak nk ck,.int .i64 a,.int .i64 b,.int .i64 c,.int .i64 d,.int .i64 e,.int .i64 W,.int .i64 H,x,r,y] 47)).alloc (.cells #[.int .i64 T,.int .i64 Z,u] 51)).alloc (.cells #[.int .i64 sd,v] 67)):=((((Kp.refl w).alloc _).alloc _).alloc _)
 have s0:cb12 (((w.alloc (.cells #[.slice At nt ct,.slice Ak nk ck,.int .i64 a,.int .i64 b,.int .i64 c,.int .i64 d,.int .i64 e,.int .i64 W,.int .i64 H,x,r,y] 47)).alloc (.cells #[.int .i64 T,.int .i64 Z,u] 51)).alloc (.cells #[.int .i64 sd,v] 67)) (w.heap.size) (.slice At nt ct) (.slice Ak nk ck) (.int .i64 a) (.int .i64 b) (.int .i64 c) (.int .i64 d) (.int .i64 e) (.int .i64 W) (.int .i64 H) (x) (r) (y) (cb3 (((w.alloc (.cells #[.slice At nt ct,.slice Ak nk ck,.int .i64 a,.int .i64 b,.int .i64 c,.int .i64 d,.int .i64 e,.int .i64 W,.int .i64 H,x,r,y] 47)).alloc (.cells #[.int .i64 T,.int .i64 Z,u] 51)).alloc (.cells #[.int .i64 sd,v] 67)) (w.heap.size+1) (.int .i64 T) (.int .i64 Z) (u) (cb2 (((w.alloc (.cells #[.slice At nt ct,.slice Ak nk ck,.int .i64 a,.int .i64 b,.int .i64 c,.int .i64 d,.int .i64 e,.int .i64 W,.int .i64 H,x,r,y] 47)).alloc (.cells #[.int .i64 T,.int .i64 Z,u] 51)).alloc (.cells #[.int .i64 sd,v] 67)) (w.heap.size+1+1) (.int .i64 sd) (v) (Kp w (((w.alloc (.cells #[.slice At nt ct,.slice Ak nk ck,.int .i64 a,.int .i64 b,.int .i64 c,.int .i64 d,.int .i64 e,.int .i64 W,.int .i64 H,x,r,y] 47)).alloc (.cells #[.int .i64 T,.int .i64 Z,u] 51)).alloc (.cells #[.int .i64 sd,v] 67))))):=⟨by simp [go_sem],by simp [go_sem],by simp [go_sem],by simp [go_sem],by simp [go_sem],by simp [go_sem],by simp [go_sem],by simp [go_sem],by simp [go_sem],by simp [go_sem],by simp [go_sem],by simp [go_sem],by simp [go_sem],by simp [go_sem],by simp [go_sem],by simp [go_sem],by simp [go_sem],KA⟩
 have HSP:=Lib.hid hs
 have HT:=Lib.hid ht
 have HU:=Lib.hid hu
 have HE:=Lib.hid he
 have HB:=Lib.hid hB
 have HS:=Lib.hid hS
 have HX:=Lib.hid hx
 have C0:=Lib.hid (fun (w:World) hs ht hu hB hS=>isStateOn_any At Ak nt nk ct ck l m a b c d e W H x r y lt lr ld T Z u us w hs ht hu hB hS)
 clear hs ht hu he hB hS hx KA
 cases hg:brdOk ⟨l,m,a,b,c,d,e⟩ W H lt lr ld && staOk ⟨l,m,a,b,c,d,e⟩ W H lt T Z us
 ·rw [hg] at C0
  rw [Bool.false_and]
  clear hg
  go_enter Tryz.func31,Tryz.ntmps31
  go_wp2_with fail
  refine(C0.out _ (HSP.out.keep s0.2.2.2.2.2.2.2.2.2.2.2.2.2.2.2.2.2) (HT.out.keep s0.2.2.2.2.2.2.2.2.2.2.2.2.2.2.2.2.2) (HU.out.keep s0.2.2.2.2.2.2.2.2.2.2.2.2.2.2.2.2.2) (HB.out.keep s0.2.2.2.2.2.2.2.2.2.2.2.2.2.2.2.2.2) (HS.out.keep s0.2.2.2.2.2.2.2.2.2.2.2.2.2.2.2.2.2)).mono ?_
  rintro e1 w1 ⟨rfl,k1⟩
  go_wp2_with fail
  go_ret2
  exact⟨rfl,s0.2.2.2.2.2.2.2.2.2.2.2.2.2.2.2.2.2.trans k1⟩
 ·rw [hg] at C0
  rw [Bool.true_and]
  simp only [Bool.and_eq_true] at hg
  have CF:=Lib.hid (fun (w:World) ht hu he hB hS hx=>isSheet_any At Ak nt nk ct ck l m a b c d e W H x r y lt lr ld T Z u us sd v xs a1 a2 a3 a4 a5 w ht hu he hB hS hg.1 hg.2 hx hsm)
  generalize shtB (ordG l m lt lr ld W H b c Z us sd) sd xs=Q at CF ⊢
  clear hg hsm
  go_enter Tryz.func31,Tryz.ntmps31
  go_wp2_with fail
  refine(C0.out _ (HSP.out.keep s0.2.2.2.2.2.2.2.2.2.2.2.2.2.2.2.2.2) (HT.out.keep s0.2.2.2.2.2.2.2.2.2.2.2.2.2.2.2.2.2) (HU.out.keep s0.2.2.2.2.2.2.2.2.2.2.2.2.2.2.2.2.2) (HB.out.keep s0.2.2.2.2.2.2.2.2.2.2.2.2.2.2.2.2.2) (HS.out.keep s0.2.2.2.2.2.2.2.2.2.2.2.2.2.2.2.2.2)).mono ?_
  rintro e1 w1 ⟨rfl,k1⟩
  have s1:=keepg17 k1 s0
  clear s0 k1
  go_wp2_with fail
  refine(CF.out _ (HT.out.keep s1.2.2.2.2.2.2.2.2.2.2.2.2.2.2.2.2.2) (HU.out.keep s1.2.2.2.2.2.2.2.2.2.2.2.2.2.2.2.2.2) (HE.out.keep s1.2.2.2.2.2.2.2.2.2.2.2.2.2.2.2.2.2) (HB.out.keep s1.2.2.2.2.2.2.2.2.2.2.2.2.2.2.2.2.2) (HS.out.keep s1.2.2.2.2.2.2.2.2.2.2.2.2.2.2.2.2.2) (HX.out.keep s1.2.2.2.2.2.2.2.2.2.2.2.2.2.2.2.2.2)).mono ?_
  rintro e2 w2 ⟨rfl,k2⟩
  go_wp2_with fail
  go_ret2
  exact⟨rfl,s1.2.2.2.2.2.2.2.2.2.2.2.2.2.2.2.2.2.trans k2⟩
end Go.Proofs.YtacgknllagdkoaaGreatDoor
