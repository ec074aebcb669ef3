/-
 Sheets, of the reference: the first fault of their orders, whether they are valid. Nothing that was there is changed.
-/
import Derived.Test.YtacgknllagdkoaaGreatDoorOrT
import Derived.Test.YtacgknllagdkoaaGreatDoorOrB
import Derived.StillTailTactics
import Derived.Deep.Cut
import Derived.Maps.AppendAt
import Derived.Test.YtacgknllagdkoaaGreatDoorQa
import Derived.Test.YtacgknllagdkoaaGreatDoorQa
namespace Go.Proofs.YtacgknllagdkoaaGreatDoor
open Go.RowKit
theorem keeph17 {W0 w w1:World} {p0 p1 p2 p3 p4 p5 p6 p7 p8 p9 p10 p11 p12 p13 p14 p15 p16:Addr} {v0 v1 v2 v3 v4 v5 v6 v7 v8 v9 v10 v11 v12 v13 v14 v15 v16:Value} (k:Kp w w1) (h:w.cell? p0=some v0∧w.cell? p1=some v1∧w.cell? p2=some v2∧w.cell? p3=some v3∧w.cell? p4=some v4∧w.cell? p5=some v5∧w.cell? p6=some v6∧w.cell? p7=some v7∧w.cell? p8=some v8∧w.cell? p9=some v9∧w.cell? p10=some v10∧w.cell? p11=some v11∧w.cell? p12=some v12∧w.cell? p13=some v13∧w.cell? p14=some v14∧w.cell? p15=some v15∧w.cell? p16=some v16∧Kp W0 w):w1.cell? p0=some v0∧w1.cell? p1=some v1∧w1.cell? p2=some v2∧w1.cell? p3=some v3∧w1.cell? p4=some v4∧w1.cell? p5=some v5∧w1.cell? p6=some v6∧w1.cell? p7=some v7∧w1.cell? p8=some v8∧w1.cell? p9=some v9∧w1.cell? p10=some v10∧w1.cell? p11=some v11∧w1.cell? p12=some v12∧w1.cell? p13=some v13∧w1.cell? p14=some v14∧w1.cell? p15=some v15∧w1.cell? p16=some v16∧Kp W0 w1 :=
 ⟨k.cell h.1,k.cell h.2.1,k.cell h.2.2.1,k.cell h.2.2.2.1,k.cell h.2.2.2.2.1,k.cell h.2.2.2.2.2.1,k.cell h.2.2.2.2.2.2.1,k.cell h.2.2.2.2.2.2.2.1,k.cell h.2.2.2.2.2.2.2.2.1,k.cell h.2.2.2.2.2.2.2.2.2.1,k.cell h.2.2.2.2.2.2.2.2.2.2.1,k.cell h.2.2.2.2.2.2.2.2.2.2.2.1,k.cell h.2.2.2.2.2.2.2.2.2.2.2.2.1,k.cell h.2.2.2.2.2.2.2.2.2.2.2.2.2.1,k.cell h.2.2.2.2.2.2.2.2.2.2.2.2.2.2.1,k.cell h.2.2.2.2.2.2.2.2.2.2.2.2.2.2.2.1,k.cell h.2.2.2.2.2.2.2.2.2.2.2.2.2.2.2.2.1,h.2.2.2.2.2.2.2.2.2.2.2.2.2.2.2.2.2.trans k⟩
theorem keeph20 {W0 w w1:World} {p0 p1 p2 p3 p4 p5 p6 p7 p8 p9 p10 p11 p12 p13 p14 p15 p16 p17 p18 p19:Addr} {v0 v1 v2 v3 v4 v5 v6 v7 v8 v9 v10 v11 v12 v13 v14 v15 v16 v17 v18 v19:Value} (k:Kp w w1) (h:w.cell? p0=some v0∧w.cell? p1=some v1∧w.cell? p2=some v2∧w.cell? p3=some v3∧w.cell? p4=some v4∧w.cell? p5=some v5∧w.cell? p6=some v6∧w.cell? p7=some v7∧w.cell? p8=some v8∧w.cell? p9=some v9∧w.cell? p10=some v10∧w.cell? p11=some v11∧w.cell? p12=some v12∧w.cell? p13=some v13∧w.cell? p14=some v14∧w.cell? p15=some v15∧w.cell? p16=some v16∧w.cell? p17=some v17∧w.cell? p18=some v18∧w.cell? p19=some v19∧Kp W0 w):w1.cell? p0=some v0∧w1.cell? p1=some v1∧w1.cell? p2=some v2∧w1.cell? p3=some v3∧w1.cell? p4=some v4∧w1.cell? p5=some v5∧w1.cell? p6=some v6∧w1.cell? p7=some v7∧w1.cell? p8=some v8∧w1.cell? p9=some v9∧w1.cell? p10=some v10∧w1.cell? p11=some v11∧w1.cell? p12=some v12∧w1.cell? p13=some v13∧w1.cell? p14=some v14∧w1.cell? p15=some v15∧w1.cell? p16=some v16∧w1.cell? p17=some v17∧w1.cell? p18=some v18∧w1.cell? p19=some v19∧Kp W0 w1 :=
 ⟨k.cell h.1,k.cell h.2.1,k.cell h.2.2.1,k.cell h.2.2.2.1,k.cell h.2.2.2.2.1,k.cell h.2.2.2.2.2.1,k.cell h.2.2.2.2.2.2.1,k.cell h.2.2.2.2.2.2.2.1,k.cell h.2.2.2.2.2.2.2.2.1,k.cell h.2.2.2.2.2.2.2.2.2.1,k.cell h.2.2.2.2.2.2.2.2.2.2.1,k.cell h.2.2.2.2.2.2.2.2.2.2.2.1,k.cell h.2.2.2.2.2.2.2.2.2.2.2.2.1,k.cell h.2.2.2.2.2.2.2.2.2.2.2.2.2.1,k.cell h.2.2.2.2.2.2.2.2.2.2.2.2.2.2.1,k.cell h.2.2.2.2.2.2.2.2.2.2.2.2.2.2.2.1,k.cell h.2.2.2.2.2.2.2.2.2.2.2.2.2.2.2.2.1,k.cell h.2.2.2.2.2.2.2.2.2.2.2.2.2.2.2.2.2.1,k.cell h.2.2.2.2.2.2.2.2.2.2.2.2.2.2.2.2.2.2.1,k.cell h.2.2.2.2.2.2.2.2.2.2.2.2.2.2.2.2.2.2.2.1,h.2.2.2.2.2.2.2.2.2.2.2.2.2.2.2.2.2.2.2.2.trans k⟩
theorem keeph21 {W0 w w1:World} {p0 p1 p2 p3 p4 p5 p6 p7 p8 p9 p10 p11 p12 p13 p14 p15 p16 p17 p18 p19 p20:Addr} {v0 v1 v2 v3 v4 v5 v6 v7 v8 v9 v10 v11 v12 v13 v14 v15 v16 v17 v18 v19 v20:Value} (k:Kp w w1) (h:w.cell? p0=some v0∧w.cell? p1=some v1∧w.cell? p2=some v2∧w.cell? p3=some v3∧w.cell? p4=some v4∧w.cell? p5=some v5∧w.cell? p6=some v6∧w.cell? p7=some v7∧w.cell? p8=some v8∧w.cell? p9=some v9∧w.cell? p10=some v10∧w.cell? p11=some v11∧w.cell? p12=some v12∧w.cell? p13=some v13∧w.cell? p14=some v14∧w.cell? p15=some v15∧w.cell? p16=some v16∧w.cell? p17=some v17∧w.cell? p18=some v18∧w.cell? p19=some v19∧w.cell? p20=some v20∧Kp W0 w):w1.cell? p0=some v0∧w1.cell? p1=some v1∧w1.cell? p2=some v2∧w1.cell? p3=some v3∧w1.cell? p4=some v4∧w1.cell? p5=some v5∧w1.cell? p6=some v6∧w1.cell? p7=some v7∧w1.cell? p8=some v8∧w1.cell? p9=some v9∧w1.cell? p10=some v10∧w1.cell? p11=some v11∧w1.cell? p12=some v12∧w1.cell? p13=some v13∧w1.cell? p14=some v14∧w1.cell? p15=some v15∧w1.cell? p16=some v16∧w1.cell? p17=some v17∧w1.cell? p18=some v18∧w1.cell? p19=some v19∧w1.cell? p20=some v20∧Kp W0 w1 :=
 ⟨k.cell h.1,k.cell h.2.1,k.cell h.2.2.1,k.cell h.2.2.2.1,k.cell h.2.2.2.2.1,k.cell h.2.2.2.2.2.1,k.cell h.2.2.2.2.2.2.1,k.cell h.2.2.2.2.2.2.2.1,k.cell h.2.2.2.2.2.2.2.2.1,k.cell h.2.2.2.2.2.2.2.2.2.1,k.cell h.2.2.2.2.2.2.2.2.2.2.1,k.cell h.2.2.2.2.2.2.2.2.2.2.2.1,k.cell h.2.2.2.2.2.2.2.2.2.2.2.2.1,k.cell h.2.2.2.2.2.2.2.2.2.2.2.2.2.1,k.cell h.2.2.2.2.2.2.2.2.2.2.2.2.2.2.1,k.cell h.2.2.2.2.2.2.2.2.2.2.2.2.2.2.2.1,k.cell h.2.2.2.2.2.2.2.2.2.2.2.2.2.2.2.2.1,k.cell h.2.2.2.2.2.2.2.2.2.2.2.2.2.2.2.2.2.1,k.cell h.2.2.2.2.2.2.2.2.2.2.2.2.2.2.2.2.2.2.1,k.cell h.2.2.2.2.2.2.2.2.2.2.2.2.2.2.2.2.2.2.2.1,k.cell h.2.2.2.2.2.2.2.2.2.2.2.2.2.2.2.2.2.2.2.2.1,h.2.2.2.2.2.2.2.2.2.2.2.2.2.2.2.2.2.2.2.2.2.trans k⟩
set_option maxRecDepth 100000 in
set_option maxHeartbeats 4000000 in
theorem oForm_any (sd:Int) (A:Option Addr) (n co:Nat) (w:World) :
  Calls Tryz.prog 76 #[hv sd (.slice A n co)] w fun e' w'=>e'=.returned (.bool (spB 0 1 sd && spB 0 12 (n:Int)))∧Kp w w':=by
 have KA:Kp w (w.alloc (.cells #[.int .i64 sd,.slice A n co] 67)):=(Kp.refl w).alloc _
 have C1:=Lib.hid (fun (w:World)=>l1In_sp sd 0 1 w)
 cases hg:spB 0 1 sd
 ·rw [hg] at C1
  clear hg
  go_enter Tryz.func76,Tryz.ntmps76
  go_wp2_with fail
  refine(C1.out _).mono ?_
  rintro e1 w1 ⟨rfl,rfl⟩
  go_wp2_with fail
  go_ret
  exact⟨ret_bool (by simp),KA⟩
 ·rw [hg] at C1
  clear hg
  go_enter Tryz.func76,Tryz.ntmps76
  go_wp2_with fail
  refine(C1.out _).mono ?_
  rintro e1 w1 ⟨rfl,rfl⟩
  go_wp2_with fail
  go_ret
  exact⟨ret_bool (by simp [spB] <;> omega),KA⟩
set_option maxRecDepth 100000 in
set_option maxHeartbeats 4000000 in
theorem oFirst_any (At Ak:Option Addr) (nt nk ct ck:Nat) (l:List Ter) (m:List Knd) (a b c d e W H:Int) (x r y:Value) (lt lr ld:List Int) (T Z:Int) (u:Value) (us:List Uni) (sd:Int) (A:Option Addr) (co:Nat) (xs:List Odr) (w:World) (hB:BrdAt w At Ak nt nk l m x r y lt lr ld) (hS:StaAt w u us) (hok:brdOk ⟨l,m,a,b,c,d,e⟩ W H lt lr ld=true) (hst:staOk ⟨l,m,a,b,c,d,e⟩ W H lt T Z us=true) (hx:RdO w A xs.length xs) (hsm:smO xs) :
  Calls Tryz.prog 77 #[bv (.slice At nt ct) (.slice Ak nk ck) a b c d e W H x r y,sv T Z u,hv sd (.slice A xs.length co)] w fun e' w'=>e'=.returned (.tuple #[.int .i64 ((fstO (ordG l m lt lr ld W H b c Z us sd) (-1) 0 xs).1:Int),.int .i64 (fstO (ordG l m lt lr ld W H b c Z us sd) (-1) 0 xs).2])∧Kp w w':=by
 have HB:=Lib.hid hB
 have HS:=Lib.hid hS
 have HX:=Lib.hid hx.2
 have HSM:=Lib.hid hsm
 have hae:∀ z ∈ us,z.a=-1∨0≤z.a:=fun z hz=>(uniOk_side ((staOk_parts hst).2.2.1 z hz)).2.2.2
 have CPO:=Lib.hid (fun (un:Int) (w:World) hS=>oPlaced_any T Z u us sd un w hS hae)
 have CFO:Hid (∀ (z:Odr) (vz:Value) (w:World),z.p.length≤1048576→BrdAt w At Ak nt nk l m x r y lt lr ld→StaAt w u us→RdI w vz z.p→Calls Tryz.prog 64 #[bv (.slice At nt ct) (.slice Ak nk ck) a b c d e W H x r y,sv T Z u,.int .i64 sd,ov z.u vz z.a] w fun e' w'=>e'=.returned (.int .i64 (ordC (stp l lt lr ld W H b c (unN us z.u).k.toNat Z) W H (mvN m (unN us z.u).k) (plcB us sd z.u) (unN us z.u).a z.p z.a))∧Kp w w'):=Lib.hid fun z vz w hz hB hS hp=>oFault_any At Ak nt nk ct ck l m a b c d e W H x r y lt lr ld T Z u us sd z.u z.a vz z.p w hB hS hok hst hp hz
 have HNG:Hid (∀ un,plcB us sd un=true→0≤un):=Lib.hid fun un h=>by have:=(plc_parts h).1;simp only [inB,Bool.and_eq_true,decide_eq_true_iff] at this;omega
 obtain⟨C,hC⟩:∃ C,C=ordG l m lt lr ld W H b c Z us sd:=⟨_,rfl⟩
 have HC:=Lib.hid hC
 rw [← hC]
 obtain⟨R,hR⟩:∃ R,R=fstO C (-1) 0 xs:=⟨_,rfl⟩
 rw [← hR]
 have HR:Hid (fstO C (-1) 0 (xs.drop 0)=R):=Lib.hid (by rw [hR];rfl)
 obtain⟨n,hn⟩:∃ n,n=xs.length:=⟨_,rfl⟩
 have HLN:=Lib.hid hn
 rw [← hn] at HX ⊢
 have hn1:n≤1048576:=by rw [hn];exact hsm.1
 have KA:Kp w (((w.alloc (.cells #[.slice At nt ct,.slice Ak nk ck,.int .i64 a,.int .i64 b,.int .i64 c,.int .i64 d,.int .i64 e,.int .i64 W,.int .i64 H,x,r,y] 47)).alloc (.cells #[.int .i64 T,.int .i64 Z,u] 51)).alloc (.cells #[.int .i64 sd,.slice A n co] 67)):=((((Kp.refl w).alloc _).alloc _).alloc _)
 have s0:cb12 (((w.alloc (.cells #[.slice At nt ct,.slice Ak nk ck,.int .i64 a,.int .i64 b,.int .i64 c,.int .i64 d,.int .i64 e,.int .i64 W,.int .i64 H,x,r,y] 47)).alloc (.cells #[.int .i64 T,.int .i64 Z,u] 51)).alloc (.cells #[.int .i64 sd,.slice A n co] 67)) (w.heap.size) (.slice At nt ct) (.slice Ak nk ck) (.int .i64 a) (.int .i64 b) (.int .i64 c) (.int .i64 d) (.int .i64 e) (.int .i64 W) (.int .i64 H) (x) (r) (y) (cb3 (((w.alloc (.cells #[.slice At nt ct,.slice Ak nk ck,.int .i64 a,.int .i64 b,.int .i64 c,.int .i64 d,.int .i64 e,.int .i64 W,.int .i64 H,x,r,y] 47)).alloc (.cells #[.int .i64 T,.int .i64 Z,u] 51)).alloc (.cells #[.int .i64 sd,.slice A n co] 67)) (w.heap.size+1) (.int .i64 T) (.int .i64 Z) (u) (cb2 (((w.alloc (.cells #[.slice At nt ct,.slice Ak nk ck,.int .i64 a,.int .i64 b,.int .i64 c,.int .i64 d,.int .i64 e,.int .i64 W,.int .i64 H,x,r,y] 47)).alloc (.cells #[.int .i64 T,.int .i64 Z,u] 51)).alloc (.cells #[.int .i64 sd,.slice A n co] 67)) (w.heap.size+1+1) (.int .i64 sd) (.slice A n co) (Kp w (((w.alloc (.cells #[.slice At nt ct,.slice Ak nk ck,.int .i64 a,.int .i64 b,.int .i64 c,.int .i64 d,.int .i64 e,.int .i64 W,.int .i64 H,x,r,y] 47)).alloc (.cells #[.int .i64 T,.int .i64 Z,u] 51)).alloc (.cells #[.int .i64 sd,.slice A n co] 67))))):=⟨by simp [go_sem],by simp [go_sem],by simp [go_sem],by simp [go_sem],by simp [go_sem],by simp [go_sem],by simp [go_sem],by simp [go_sem],by simp [go_sem],by simp [go_sem],by simp [go_sem],by simp [go_sem],by simp [go_sem],by simp [go_sem],by simp [go_sem],by simp [go_sem],by simp [go_sem],KA⟩
 clear hB hS hok hst hx hsm hC hR hn KA hae
 go_enter Tryz.func77,Tryz.ntmps77
 go_wp2_with fail
 generalize (((w.alloc (.cells #[.slice At nt ct,.slice Ak nk ck,.int .i64 a,.int .i64 b,.int .i64 c,.int .i64 d,.int .i64 e,.int .i64 W,.int .i64 H,x,r,y] 47)).alloc (.cells #[.int .i64 T,.int .i64 Z,u] 51)).alloc (.cells #[.int .i64 sd,.slice A n co] 67))=W0 at *
 go_loopw [8,9,10,14] (fun _ _ _ sq wx=>∃ q:Nat,q≤n∧sq=.int .i64 q∧∃ bf:Int,Hid (fstO C bf q (xs.drop q)=R)∧Hid ((q=0∧bf=-1)∨∃ (q':Nat) (y:Odr),q=q'+1∧xs[q']?=some y∧y.u=bf)∧cb12 wx (w.heap.size) (.slice At nt ct) (.slice Ak nk ck) (.int .i64 a) (.int .i64 b) (.int .i64 c) (.int .i64 d) (.int .i64 e) (.int .i64 W) (.int .i64 H) (x) (r) (y) (cb3 wx (w.heap.size+1) (.int .i64 T) (.int .i64 Z) (u) (cb2 wx (w.heap.size+1+1) (.int .i64 sd) (.slice A n co) (Kp w wx)))) (fun _ _ _ sq _=>n - (intOf sq).toNat)
 case atStart=>exact⟨0,by omega,rfl,-1,HR,Lib.hid (.inl ⟨rfl,rfl⟩),s0⟩
 case round =>
  clear s0
  obtain⟨q,hqn,rfl,bf,HF,HPV,sr⟩:=hrel
  by_cases hlt:q<n
  ·have hlt':(q:Int)<n:=by omega
   obtain⟨g,off,rfl,hc⟩:=HX.out (by omega)
   have HCC:=Lib.hid hc
   obtain⟨z,hz⟩:∃ z,xs[q]?=some z:=⟨xs[q]'(by have:=HLN.out;omega),List.getElem?_eq_getElem _⟩
   obtain⟨Ao,cx,⟨a0w,a1w,a2w⟩,ra⟩:=hc q z hz
   have a0:=sr.2.2.2.2.2.2.2.2.2.2.2.2.2.2.2.2.2.cell a0w
   have a1:=sr.2.2.2.2.2.2.2.2.2.2.2.2.2.2.2.2.2.cell a1w
   have a2:=sr.2.2.2.2.2.2.2.2.2.2.2.2.2.2.2.2.2.cell a2w
   have HZ:=Lib.hid hz
   have hpl:=HSM.out.2 z (List.mem_of_getElem? hz)
   have CQ:=Lib.hid (fun w h2 h3 h5=>CFO.out z (.slice Ao z.p.length cx) w hpl h2 h3 h5)
   have CP:=Lib.hid (CPO.out z.u)
   clear hc hz hpl a0w a1w a2w
   obtain⟨ux,px,ax⟩:=z
   simp only at a0 a1 a2 ra CQ CP
   obtain⟨cc,hcc⟩:∃ cc,cc=ordC (stp l lt lr ld W H b c (unN us ux).k.toNat Z) W H (mvN m (unN us ux).k) (plcB us sd ux) (unN us ux).a px ax:=⟨_,rfl⟩
   rw [← hcc] at CQ
   have HCD:=Lib.hid hcc
   clear hcc
   have HPL:Hid (px.length=px.length):=Lib.hid rfl
   have RA:=Lib.hid ra
   generalize px.length=np at a1 RA CQ HPL
   clear ra HPL
   cases hpc:plcB us sd ux
   ·rw [hpc] at CP
    have HCB:Hid (C bf ⟨ux,px,ax⟩=cc):=Lib.hid (by rw [HC.out];unfold ordG;simp only;rw [ordF_lt (fun h=>by rw [hpc] at h;cases h)];exact HCD.out.symm)
    by_cases h0:cc=0
    ·subst h0
     have HF2:Hid (fstO C ux (q+1) (xs.drop (q+1))=R):=Lib.hid ((fstO_step HZ.out HCB.out).symm.trans HF.out)
     go_upto_region 4 with (fail)
     have k5:Kp wr ((wr.alloc (.cells #[.int .i64 ux,.slice Ao np cx,.int .i64 ax] 53))):=((Kp.refl wr).alloc _)
     have s1:cb12 (((wr.alloc (.cells #[.int .i64 ux,.slice Ao np cx,.int .i64 ax] 53))).drew) (w.heap.size) (.slice At nt ct) (.slice Ak nk ck) (.int .i64 a) (.int .i64 b) (.int .i64 c) (.int .i64 d) (.int .i64 e) (.int .i64 W) (.int .i64 H) (x) (r) (y) (cb3 (((wr.alloc (.cells #[.int .i64 ux,.slice Ao np cx,.int .i64 ax] 53))).drew) (w.heap.size+1) (.int .i64 T) (.int .i64 Z) (u) (cb2 (((wr.alloc (.cells #[.int .i64 ux,.slice Ao np cx,.int .i64 ax] 53))).drew) (w.heap.size+1+1) (.int .i64 sd) (.slice (some ⟨g,off,none⟩) n co) (cb3 (((wr.alloc (.cells #[.int .i64 ux,.slice Ao np cx,.int .i64 ax] 53))).drew) (wr.heap.size) (.int .i64 ux) (.slice Ao np cx) (.int .i64 ax) (Kp w ((wr.alloc (.cells #[.int .i64 ux,.slice Ao np cx,.int .i64 ax] 53))).drew)))):=⟨k5.drew.cell sr.1,k5.drew.cell sr.2.1,k5.drew.cell sr.2.2.1,k5.drew.cell sr.2.2.2.1,k5.drew.cell sr.2.2.2.2.1,k5.drew.cell sr.2.2.2.2.2.1,k5.drew.cell sr.2.2.2.2.2.2.1,k5.drew.cell sr.2.2.2.2.2.2.2.1,k5.drew.cell sr.2.2.2.2.2.2.2.2.1,k5.drew.cell sr.2.2.2.2.2.2.2.2.2.1,k5.drew.cell sr.2.2.2.2.2.2.2.2.2.2.1,k5.drew.cell sr.2.2.2.2.2.2.2.2.2.2.2.1,k5.drew.cell sr.2.2.2.2.2.2.2.2.2.2.2.2.1,k5.drew.cell sr.2.2.2.2.2.2.2.2.2.2.2.2.2.1,k5.drew.cell sr.2.2.2.2.2.2.2.2.2.2.2.2.2.2.1,k5.drew.cell sr.2.2.2.2.2.2.2.2.2.2.2.2.2.2.2.1,k5.drew.cell sr.2.2.2.2.2.2.2.2.2.2.2.2.2.2.2.2.1,by simp [go_sem],by simp [go_sem],by simp [go_sem],sr.2.2.2.2.2.2.2.2.2.2.2.2.2.2.2.2.2.trans k5.drew⟩
     clear k5 sr a0 a1 a2
     refine wp_region_held_drew (S:=(fun w'=>cb12 w' (w.heap.size) (.slice At nt ct) (.slice Ak nk ck) (.int .i64 a) (.int .i64 b) (.int .i64 c) (.int .i64 d) (.int .i64 e) (.int .i64 W) (.int .i64 H) (x) (r) (y) (cb3 w' (w.heap.size+1) (.int .i64 T) (.int .i64 Z) (u) (cb2 w' (w.heap.size+1+1) (.int .i64 sd) (.slice (some ⟨g,off,none⟩) n co) (cb3 w' (wr.heap.size) (.int .i64 ux) (.slice Ao np cx) (.int .i64 ax) (Kp w w')))))) (by kernel_rfl) ?_ (fun hHeld=>?_)
     ·exact s1
     refine tk 0 ⟨some 19,_,_,_,_,_⟩ ?_ rfl (by kernel_rfl) (fun _ _ _ h=>h) (by rfl) ?_ (by assumption) ?_
     rotate_left
     ·intro w hSw;(try dsimp only at hSw);go_simp;(all_goals with_reducible rfl)
     simp only [Act.put,sA,sB,sC]
     refine tk 1 ⟨some 20,_,_,_,_,_⟩ ?_ rfl (by kernel_rfl) (fun _ _ _ h=>h) (by rfl) ?_ (by assumption) ?_
     rotate_left
     ·intro w hSw;(try dsimp only at hSw);go_simp;(all_goals with_reducible rfl)
     simp only [Act.put,sA,sB,sC]
     refine tk 2 ⟨some 21,_,_,_,_,_⟩ ?_ rfl (by kernel_rfl) (fun _ _ _ h=>h) (by rfl) ?_ (by assumption) ?_
     rotate_left
     ·intro w hSw;(try dsimp only at hSw);go_simp;(all_goals with_reducible rfl)
     simp only [Act.put,sA,sB,sC]
     refine tk 3 ⟨some 22,_,_,_,_,_⟩ ?_ rfl (by kernel_rfl) (fun _ _ _ h=>h) (by rfl) ?_ (by assumption) ?_
     rotate_left
     ·intro w hSw;(try dsimp only at hSw);go_simp;(all_goals with_reducible rfl)
     simp only [Act.put,sA,sB,sC]
     refine tk 4 ⟨some 23,_,_,_,_,_⟩ ?_ rfl (by kernel_rfl) (fun _ _ _ h=>h) (by rfl) ?_ (by assumption) ?_
     rotate_left
     ·intro w hSw;(try dsimp only at hSw);go_simp;(all_goals with_reducible rfl)
     simp only [Act.put,sA,sB,sC]
     refine wpAnyH_ready (rs:=[5]) (by kernel_rfl) (by simp) ?_
     refine AllReadyH.cons (o:=⟨some 24,_,_,_,_,_⟩) rfl (fun K hK=>?_) AllReadyH.nil
     go_simp
     refine(CP.out _ (HS.out.keep hHeld.2.2.2.2.2.2.2.2.2.2.2.2.2.2.2.2.2.2.2.2)).mono ?_;rintro e1 w1 ⟨rfl,k1⟩;have s2:=keeph20 k1 hHeld
     go_wp2_with fail
     refine hK.out _ _ ?_ (fun hHeld=>?_)
     ·(try dsimp only);(first | assumption | exact s2 | exact s1)
     clear hK K
     try simp only [Act.put,sA,sB,sC]
     refine tk 6 ⟨some 25,_,_,_,_,_⟩ ?_ rfl (by kernel_rfl) (fun _ _ _ h=>h) (by rfl) ?_ (by assumption) ?_
     rotate_left
     ·intro w hSw;(try dsimp only at hSw);go_simp;(all_goals with_reducible rfl)
     simp only [Act.put,sA,sB,sC]
     refine tn 7 ⟨some 26,_,_,_,_,_⟩ rfl (by kernel_rfl) (fun _ _ _ h=>h) (by rfl) (by assumption) ?_
     simp only [Act.put,sA,sB,sC]
     refine tn 8 ⟨some 27,_,_,_,_,_⟩ rfl (by kernel_rfl) (fun _ _ _ h=>h) (by rfl) (by assumption) ?_
     simp only [Act.put,sA,sB,sC]
     refine tk 9 ⟨some 28,_,_,_,_,_⟩ ?_ rfl (by kernel_rfl) (fun _ _ _ h=>h) (by rfl) ?_ (by assumption) ?_
     rotate_left
     ·intro w hSw;(try dsimp only at hSw);go_simp;(all_goals with_reducible rfl)
     simp only [Act.put,sA,sB,sC]
     refine tk 10 ⟨some 29,_,_,_,_,_⟩ ?_ rfl (by kernel_rfl) (fun _ _ _ h=>h) (by rfl) ?_ (by assumption) ?_
     rotate_left
     ·intro w hSw;(try dsimp only at hSw);go_simp;(all_goals with_reducible rfl)
     simp only [Act.put,sA,sB,sC]
     refine tn 11 ⟨some 30,_,_,_,_,_⟩ rfl (by kernel_rfl) (fun _ _ _ h=>h) (by rfl) (by assumption) ?_
     simp only [Act.put,sA,sB,sC]
     refine tn 12 ⟨some 31,_,_,_,_,_⟩ rfl (by kernel_rfl) (fun _ _ _ h=>h) (by rfl) (by assumption) ?_
     simp only [Act.put,sA,sB,sC]
     refine tn 13 ⟨some 32,_,_,_,_,_⟩ rfl (by kernel_rfl) (fun _ _ _ h=>h) (by rfl) (by assumption) ?_
     simp only [Act.put,sA,sB,sC]
     refine tn 14 ⟨some 33,_,_,_,_,_⟩ rfl (by kernel_rfl) (fun _ _ _ h=>h) (by rfl) (by assumption) ?_
     simp only [Act.put,sA,sB,sC]
     refine tn 15 ⟨some 34,_,_,_,_,_⟩ rfl (by kernel_rfl) (fun _ _ _ h=>h) (by rfl) (by assumption) ?_
     simp only [Act.put,sA,sB,sC]
     refine tn 16 ⟨some 35,_,_,_,_,_⟩ rfl (by kernel_rfl) (fun _ _ _ h=>h) (by rfl) (by assumption) ?_
     simp only [Act.put,sA,sB,sC]
     refine tn 17 ⟨some 36,_,_,_,_,_⟩ rfl (by kernel_rfl) (fun _ _ _ h=>h) (by rfl) (by assumption) ?_
     simp only [Act.put,sA,sB,sC]
     refine tn 18 ⟨some 37,_,_,_,_,_⟩ rfl (by kernel_rfl) (fun _ _ _ h=>h) (by rfl) (by assumption) ?_
     simp only [Act.put,sA,sB,sC]
     refine tn 19 ⟨some 38,_,_,_,_,_⟩ rfl (by kernel_rfl) (fun _ _ _ h=>h) (by rfl) (by assumption) ?_
     simp only [Act.put,sA,sB,sC]
     refine tn 20 ⟨some 39,_,_,_,_,_⟩ rfl (by kernel_rfl) (fun _ _ _ h=>h) (by rfl) (by assumption) ?_
     simp only [Act.put,sA,sB,sC]
     refine tk 21 ⟨some 40,_,_,_,_,_⟩ ?_ rfl (by kernel_rfl) (fun _ _ _ h=>h) (by rfl) ?_ (by assumption) ?_
     rotate_left
     ·intro w hSw;(try dsimp only at hSw);go_simp;(all_goals with_reducible rfl)
     simp only [Act.put,sA,sB,sC]
     refine wpAnyH_done (by kernel_rfl) ?_ _
     go_wp2_with fail
     refine(CQ.out _ (HB.out.keep hHeld.2.2.2.2.2.2.2.2.2.2.2.2.2.2.2.2.2.2.2.2) (HS.out.keep hHeld.2.2.2.2.2.2.2.2.2.2.2.2.2.2.2.2.2.2.2.2) (RA.out.keep hHeld.2.2.2.2.2.2.2.2.2.2.2.2.2.2.2.2.2.2.2.2)).mono ?_
     rintro e6 w6 ⟨rfl,k6⟩
     have s6:=keeph20 k6 hHeld
     clear k6 hHeld
     go_wp2_with fail
     go_roundw
     case rel=>exact⟨q+1,by omega,by go_num,ux,HF2,Lib.hid (.inr ⟨q,⟨ux,px,ax⟩,rfl,HZ.out,rfl⟩),s6.1,s6.2.1,s6.2.2.1,s6.2.2.2.1,s6.2.2.2.2.1,s6.2.2.2.2.2.1,s6.2.2.2.2.2.2.1,s6.2.2.2.2.2.2.2.1,s6.2.2.2.2.2.2.2.2.1,s6.2.2.2.2.2.2.2.2.2.1,s6.2.2.2.2.2.2.2.2.2.2.1,s6.2.2.2.2.2.2.2.2.2.2.2.1,s6.2.2.2.2.2.2.2.2.2.2.2.2.1,s6.2.2.2.2.2.2.2.2.2.2.2.2.2.1,s6.2.2.2.2.2.2.2.2.2.2.2.2.2.2.1,s6.2.2.2.2.2.2.2.2.2.2.2.2.2.2.2.1,s6.2.2.2.2.2.2.2.2.2.2.2.2.2.2.2.2.1,s6.2.2.2.2.2.2.2.2.2.2.2.2.2.2.2.2.2.2.2.2⟩
     case measure=>simp [intOf];omega
    ·have hd:(cc != 0)=true:=by simpa using h0
     have HST:Hid (R=(q,cc)):=Lib.hid (by rw [← HF.out,fstO_stop HZ.out (by rw [HCB.out];exact h0),HCB.out])
     go_upto_region 4 with (fail)
     have k5:Kp wr ((wr.alloc (.cells #[.int .i64 ux,.slice Ao np cx,.int .i64 ax] 53))):=((Kp.refl wr).alloc _)
     have s1:cb12 (((wr.alloc (.cells #[.int .i64 ux,.slice Ao np cx,.int .i64 ax] 53))).drew) (w.heap.size) (.slice At nt ct) (.slice Ak nk ck) (.int .i64 a) (.int .i64 b) (.int .i64 c) (.int .i64 d) (.int .i64 e) (.int .i64 W) (.int .i64 H) (x) (r) (y) (cb3 (((wr.alloc (.cells #[.int .i64 ux,.slice Ao np cx,.int .i64 ax] 53))).drew) (w.heap.size+1) (.int .i64 T) (.int .i64 Z) (u) (cb2 (((wr.alloc (.cells #[.int .i64 ux,.slice Ao np cx,.int .i64 ax] 53))).drew) (w.heap.size+1+1) (.int .i64 sd) (.slice (some ⟨g,off,none⟩) n co) (cb3 (((wr.alloc (.cells #[.int .i64 ux,.slice Ao np cx,.int .i64 ax] 53))).drew) (wr.heap.size) (.int .i64 ux) (.slice Ao np cx) (.int .i64 ax) (Kp w ((wr.alloc (.cells #[.int .i64 ux,.slice Ao np cx,.int .i64 ax] 53))).drew)))):=⟨k5.drew.cell sr.1,k5.drew.cell sr.2.1,k5.drew.cell sr.2.2.1,k5.drew.cell sr.2.2.2.1,k5.drew.cell sr.2.2.2.2.1,k5.drew.cell sr.2.2.2.2.2.1,k5.drew.cell sr.2.2.2.2.2.2.1,k5.drew.cell sr.2.2.2.2.2.2.2.1,k5.drew.cell sr.2.2.2.2.2.2.2.2.1,k5.drew.cell sr.2.2.2.2.2.2.2.2.2.1,k5.drew.cell sr.2.2.2.2.2.2.2.2.2.2.1,k5.drew.cell sr.2.2.2.2.2.2.2.2.2.2.2.1,k5.drew.cell sr.2.2.2.2.2.2.2.2.2.2.2.2.1,k5.drew.cell sr.2.2.2.2.2.2.2.2.2.2.2.2.2.1,k5.drew.cell sr.2.2.2.2.2.2.2.2.2.2.2.2.2.2.1,k5.drew.cell sr.2.2.2.2.2.2.2.2.2.2.2.2.2.2.2.1,k5.drew.cell sr.2.2.2.2.2.2.2.2.2.2.2.2.2.2.2.2.1,by simp [go_sem],by simp [go_sem],by simp [go_sem],sr.2.2.2.2.2.2.2.2.2.2.2.2.2.2.2.2.2.trans k5.drew⟩
     clear k5 sr a0 a1 a2
     refine wp_region_held_drew (S:=(fun w'=>cb12 w' (w.heap.size) (.slice At nt ct) (.slice Ak nk ck) (.int .i64 a) (.int .i64 b) (.int .i64 c) (.int .i64 d) (.int .i64 e) (.int .i64 W) (.int .i64 H) (x) (r) (y) (cb3 w' (w.heap.size+1) (.int .i64 T) (.int .i64 Z) (u) (cb2 w' (w.heap.size+1+1) (.int .i64 sd) (.slice (some ⟨g,off,none⟩) n co) (cb3 w' (wr.heap.size) (.int .i64 ux) (.slice Ao np cx) (.int .i64 ax) (Kp w w')))))) (by kernel_rfl) ?_ (fun hHeld=>?_)
     ·exact s1
     refine tk 0 ⟨some 19,_,_,_,_,_⟩ ?_ rfl (by kernel_rfl) (fun _ _ _ h=>h) (by rfl) ?_ (by assumption) ?_
     rotate_left
     ·intro w hSw;(try dsimp only at hSw);go_simp;(all_goals with_reducible rfl)
     simp only [Act.put,sA,sB,sC]
     refine tk 1 ⟨some 20,_,_,_,_,_⟩ ?_ rfl (by kernel_rfl) (fun _ _ _ h=>h) (by rfl) ?_ (by assumption) ?_
     rotate_left
     ·intro w hSw;(try dsimp only at hSw);go_simp;(all_goals with_reducible rfl)
     simp only [Act.put,sA,sB,sC]
     refine tk 2 ⟨some 21,_,_,_,_,_⟩ ?_ rfl (by kernel_rfl) (fun _ _ _ h=>h) (by rfl) ?_ (by assumption) ?_
     rotate_left
     ·intro w hSw;(try dsimp only at hSw);go_simp;(all_goals with_reducible rfl)
     simp only [Act.put,sA,sB,sC]
     refine tk 3 ⟨some 22,_,_,_,_,_⟩ ?_ rfl (by kernel_rfl) (fun _ _ _ h=>h) (by rfl) ?_ (by assumption) ?_
     rotate_left
     ·intro w hSw;(try dsimp only at hSw);go_simp;(all_goals with_reducible rfl)
     simp only [Act.put,sA,sB,sC]
     refine tk 4 ⟨some 23,_,_,_,_,_⟩ ?_ rfl (by kernel_rfl) (fun _ _ _ h=>h) (by rfl) ?_ (by assumption) ?_
     rotate_left
     ·intro w hSw;(try dsimp only at hSw);go_simp;(all_goals with_reducible rfl)
     simp only [Act.put,sA,sB,sC]
     refine wpAnyH_ready (rs:=[5]) (by kernel_rfl) (by simp) ?_
     refine AllReadyH.cons (o:=⟨some 24,_,_,_,_,_⟩) rfl (fun K hK=>?_) AllReadyH.nil
     go_simp
     refine(CP.out _ (HS.out.keep hHeld.2.2.2.2.2.2.2.2.2.2.2.2.2.2.2.2.2.2.2.2)).mono ?_;rintro e1 w1 ⟨rfl,k1⟩;have s2:=keeph20 k1 hHeld
     go_wp2_with fail
     refine hK.out _ _ ?_ (fun hHeld=>?_)
     ·(try dsimp only);(first | assumption | exact s2 | exact s1)
     clear hK K
     try simp only [Act.put,sA,sB,sC]
     refine tk 6 ⟨some 25,_,_,_,_,_⟩ ?_ rfl (by kernel_rfl) (fun _ _ _ h=>h) (by rfl) ?_ (by assumption) ?_
     rotate_left
     ·intro w hSw;(try dsimp only at hSw);go_simp;(all_goals with_reducible rfl)
     simp only [Act.put,sA,sB,sC]
     refine tn 7 ⟨some 26,_,_,_,_,_⟩ rfl (by kernel_rfl) (fun _ _ _ h=>h) (by rfl) (by assumption) ?_
     simp only [Act.put,sA,sB,sC]
     refine tn 8 ⟨some 27,_,_,_,_,_⟩ rfl (by kernel_rfl) (fun _ _ _ h=>h) (by rfl) (by assumption) ?_
     simp only [Act.put,sA,sB,sC]
     refine tk 9 ⟨some 28,_,_,_,_,_⟩ ?_ rfl (by kernel_rfl) (fun _ _ _ h=>h) (by rfl) ?_ (by assumption) ?_
     rotate_left
     ·intro w hSw;(try dsimp only at hSw);go_simp;(all_goals with_reducible rfl)
     simp only [Act.put,sA,sB,sC]
     refine tk 10 ⟨some 29,_,_,_,_,_⟩ ?_ rfl (by kernel_rfl) (fun _ _ _ h=>h) (by rfl) ?_ (by assumption) ?_
     rotate_left
     ·intro w hSw;(try dsimp only at hSw);go_simp;(all_goals with_reducible rfl)
     simp only [Act.put,sA,sB,sC]
     refine tn 11 ⟨some 30,_,_,_,_,_⟩ rfl (by kernel_rfl) (fun _ _ _ h=>h) (by rfl) (by assumption) ?_
     simp only [Act.put,sA,sB,sC]
     refine tn 12 ⟨some 31,_,_,_,_,_⟩ rfl (by kernel_rfl) (fun _ _ _ h=>h) (by rfl) (by assumption) ?_
     simp only [Act.put,sA,sB,sC]
     refine tn 13 ⟨some 32,_,_,_,_,_⟩ rfl (by kernel_rfl) (fun _ _ _ h=>h) (by rfl) (by assumption) ?_
     simp only [Act.put,sA,sB,sC]
     refine tn 14 ⟨some 33,_,_,_,_,_⟩ rfl (by kernel_rfl) (fun _ _ _ h=>h) (by rfl) (by assumption) ?_
     simp only [Act.put,sA,sB,sC]
     refine tn 15 ⟨some 34,_,_,_,_,_⟩ rfl (by kernel_rfl) (fun _ _ _ h=>h) (by rfl) (by assumption) ?_
     simp only [Act.put,sA,sB,sC]
     refine tn 16 ⟨some 35,_,_,_,_,_⟩ rfl (by kernel_rfl) (fun _ _ _ h=>h) (by rfl) (by assumption) ?_
     simp only [Act.put,sA,sB,sC]
     refine tn 17 ⟨some 36,_,_,_,_,_⟩ rfl (by kernel_rfl) (fun _ _ _ h=>h) (by rfl) (by assumption) ?_
     simp only [Act.put,sA,sB,sC]
     refine tn 18 ⟨some 37,_,_,_,_,_⟩ rfl (by kernel_rfl) (fun _ _ _ h=>h) (by rfl) (by assumption) ?_
     simp only [Act.put,sA,sB,sC]
     refine tn 19 ⟨some 38,_,_,_,_,_⟩ rfl (by kernel_rfl) (fun _ _ _ h=>h) (by rfl) (by assumption) ?_
     simp only [Act.put,sA,sB,sC]
     refine tn 20 ⟨some 39,_,_,_,_,_⟩ rfl (by kernel_rfl) (fun _ _ _ h=>h) (by rfl) (by assumption) ?_
     simp only [Act.put,sA,sB,sC]
     refine tk 21 ⟨some 40,_,_,_,_,_⟩ ?_ rfl (by kernel_rfl) (fun _ _ _ h=>h) (by rfl) ?_ (by assumption) ?_
     rotate_left
     ·intro w hSw;(try dsimp only at hSw);go_simp;(all_goals with_reducible rfl)
     simp only [Act.put,sA,sB,sC]
     refine wpAnyH_done (by kernel_rfl) ?_ _
     go_wp2_with fail
     refine(CQ.out _ (HB.out.keep hHeld.2.2.2.2.2.2.2.2.2.2.2.2.2.2.2.2.2.2.2.2) (HS.out.keep hHeld.2.2.2.2.2.2.2.2.2.2.2.2.2.2.2.2.2.2.2.2) (RA.out.keep hHeld.2.2.2.2.2.2.2.2.2.2.2.2.2.2.2.2.2.2.2.2)).mono ?_
     rintro e6 w6 ⟨rfl,k6⟩
     have s6:=keeph20 k6 hHeld
     clear k6 hHeld
     go_wp2_with fail
     rw [HST.out]
     go_ret2
     exact⟨rfl,s6.2.2.2.2.2.2.2.2.2.2.2.2.2.2.2.2.2.2.2.2⟩
   ·have hux:=HNG.out ux hpc
    rw [hpc] at CP
    rcases HPV.out with ⟨hq,hbf⟩ | ⟨q',zp,hq,hy,hyu⟩
    ·have hq0:¬ (0:Int)<(q:Int):=by omega
     have hq1:¬ 0<q:=by omega
     have hbx:¬ ux≤bf:=by omega
     have HBX:=Lib.hid hbx
     clear hq hbf hbx
     have HCB:Hid (C bf ⟨ux,px,ax⟩=cc):=Lib.hid (by rw [HC.out];unfold ordG;simp only;rw [ordF_lt (fun _=>HBX.out)];exact HCD.out.symm)
     by_cases h0:cc=0
     ·subst h0
      have HF2:Hid (fstO C ux (q+1) (xs.drop (q+1))=R):=Lib.hid ((fstO_step HZ.out HCB.out).symm.trans HF.out)
      go_upto_region 4 with (fail)
      have k5:Kp wr ((wr.alloc (.cells #[.int .i64 ux,.slice Ao np cx,.int .i64 ax] 53))):=((Kp.refl wr).alloc _)
      have s1:cb12 (((wr.alloc (.cells #[.int .i64 ux,.slice Ao np cx,.int .i64 ax] 53))).drew) (w.heap.size) (.slice At nt ct) (.slice Ak nk ck) (.int .i64 a) (.int .i64 b) (.int .i64 c) (.int .i64 d) (.int .i64 e) (.int .i64 W) (.int .i64 H) (x) (r) (y) (cb3 (((wr.alloc (.cells #[.int .i64 ux,.slice Ao np cx,.int .i64 ax] 53))).drew) (w.heap.size+1) (.int .i64 T) (.int .i64 Z) (u) (cb2 (((wr.alloc (.cells #[.int .i64 ux,.slice Ao np cx,.int .i64 ax] 53))).drew) (w.heap.size+1+1) (.int .i64 sd) (.slice (some ⟨g,off,none⟩) n co) (cb3 (((wr.alloc (.cells #[.int .i64 ux,.slice Ao np cx,.int .i64 ax] 53))).drew) (wr.heap.size) (.int .i64 ux) (.slice Ao np cx) (.int .i64 ax) (Kp w ((wr.alloc (.cells #[.int .i64 ux,.slice Ao np cx,.int .i64 ax] 53))).drew)))):=⟨k5.drew.cell sr.1,k5.drew.cell sr.2.1,k5.drew.cell sr.2.2.1,k5.drew.cell sr.2.2.2.1,k5.drew.cell sr.2.2.2.2.1,k5.drew.cell sr.2.2.2.2.2.1,k5.drew.cell sr.2.2.2.2.2.2.1,k5.drew.cell sr.2.2.2.2.2.2.2.1,k5.drew.cell sr.2.2.2.2.2.2.2.2.1,k5.drew.cell sr.2.2.2.2.2.2.2.2.2.1,k5.drew.cell sr.2.2.2.2.2.2.2.2.2.2.1,k5.drew.cell sr.2.2.2.2.2.2.2.2.2.2.2.1,k5.drew.cell sr.2.2.2.2.2.2.2.2.2.2.2.2.1,k5.drew.cell sr.2.2.2.2.2.2.2.2.2.2.2.2.2.1,k5.drew.cell sr.2.2.2.2.2.2.2.2.2.2.2.2.2.2.1,k5.drew.cell sr.2.2.2.2.2.2.2.2.2.2.2.2.2.2.2.1,k5.drew.cell sr.2.2.2.2.2.2.2.2.2.2.2.2.2.2.2.2.1,by simp [go_sem],by simp [go_sem],by simp [go_sem],sr.2.2.2.2.2.2.2.2.2.2.2.2.2.2.2.2.2.trans k5.drew⟩
      clear k5 sr a0 a1 a2
      refine wp_region_held_drew (S:=(fun w'=>cb12 w' (w.heap.size) (.slice At nt ct) (.slice Ak nk ck) (.int .i64 a) (.int .i64 b) (.int .i64 c) (.int .i64 d) (.int .i64 e) (.int .i64 W) (.int .i64 H) (x) (r) (y) (cb3 w' (w.heap.size+1) (.int .i64 T) (.int .i64 Z) (u) (cb2 w' (w.heap.size+1+1) (.int .i64 sd) (.slice (some ⟨g,off,none⟩) n co) (cb3 w' (wr.heap.size) (.int .i64 ux) (.slice Ao np cx) (.int .i64 ax) (Kp w w')))))) (by kernel_rfl) ?_ (fun hHeld=>?_)
      ·exact s1
      refine tk 0 ⟨some 19,_,_,_,_,_⟩ ?_ rfl (by kernel_rfl) (fun _ _ _ h=>h) (by rfl) ?_ (by assumption) ?_
      rotate_left
      ·intro w hSw;(try dsimp only at hSw);go_simp;(all_goals with_reducible rfl)
      simp only [Act.put,sA,sB,sC]
      refine tk 1 ⟨some 20,_,_,_,_,_⟩ ?_ rfl (by kernel_rfl) (fun _ _ _ h=>h) (by rfl) ?_ (by assumption) ?_
      rotate_left
      ·intro w hSw;(try dsimp only at hSw);go_simp;(all_goals with_reducible rfl)
      simp only [Act.put,sA,sB,sC]
      refine tk 2 ⟨some 21,_,_,_,_,_⟩ ?_ rfl (by kernel_rfl) (fun _ _ _ h=>h) (by rfl) ?_ (by assumption) ?_
      rotate_left
      ·intro w hSw;(try dsimp only at hSw);go_simp;(all_goals with_reducible rfl)
      simp only [Act.put,sA,sB,sC]
      refine tk 3 ⟨some 22,_,_,_,_,_⟩ ?_ rfl (by kernel_rfl) (fun _ _ _ h=>h) (by rfl) ?_ (by assumption) ?_
      rotate_left
      ·intro w hSw;(try dsimp only at hSw);go_simp;(all_goals with_reducible rfl)
      simp only [Act.put,sA,sB,sC]
      refine tk 4 ⟨some 23,_,_,_,_,_⟩ ?_ rfl (by kernel_rfl) (fun _ _ _ h=>h) (by rfl) ?_ (by assumption) ?_
      rotate_left
      ·intro w hSw;(try dsimp only at hSw);go_simp;(all_goals with_reducible rfl)
      simp only [Act.put,sA,sB,sC]
      refine wpAnyH_ready (rs:=[5]) (by kernel_rfl) (by simp) ?_
      refine AllReadyH.cons (o:=⟨some 24,_,_,_,_,_⟩) rfl (fun K hK=>?_) AllReadyH.nil
      go_simp
      refine(CP.out _ (HS.out.keep hHeld.2.2.2.2.2.2.2.2.2.2.2.2.2.2.2.2.2.2.2.2)).mono ?_;rintro e1 w1 ⟨rfl,k1⟩;have s2:=keeph20 k1 hHeld
      go_wp2_with fail
      refine hK.out _ _ ?_ (fun hHeld=>?_)
      ·(try dsimp only);(first | assumption | exact s2 | exact s1)
      clear hK K
      try simp only [Act.put,sA,sB,sC]
      refine tk 6 ⟨some 25,_,_,_,_,_⟩ ?_ rfl (by kernel_rfl) (fun _ _ _ h=>h) (by rfl) ?_ (by assumption) ?_
      rotate_left
      ·intro w hSw;(try dsimp only at hSw);go_simp;(all_goals with_reducible rfl)
      simp only [Act.put,sA,sB,sC]
      refine tk 7 ⟨some 26,_,_,_,_,_⟩ ?_ rfl (by kernel_rfl) (fun _ _ _ h=>h) (by rfl) ?_ (by assumption) ?_
      rotate_left
      ·intro w hSw;(try dsimp only at hSw);go_simp;(all_goals with_reducible rfl)
      simp only [Act.put,sA,sB,sC]
      refine tk 8 ⟨some 27,_,_,_,_,_⟩ ?_ rfl (by kernel_rfl) (fun _ _ _ h=>h) (by rfl) ?_ (by assumption) ?_
      rotate_left
      ·intro w hSw;(try dsimp only at hSw);go_simp;(all_goals with_reducible rfl)
      simp only [Act.put,sA,sB,sC]
      refine tk 9 ⟨some 28,_,_,_,_,_⟩ ?_ rfl (by kernel_rfl) (fun _ _ _ h=>h) (by rfl) ?_ (by assumption) ?_
      rotate_left
      ·intro w hSw;(try dsimp only at hSw);go_simp;(all_goals with_reducible rfl)
      simp only [Act.put,sA,sB,sC]
      refine tk 10 ⟨some 29,_,_,_,_,_⟩ ?_ rfl (by kernel_rfl) (fun _ _ _ h=>h) (by rfl) ?_ (by assumption) ?_
      rotate_left
      ·intro w hSw;(try dsimp only at hSw);go_simp;(all_goals with_reducible rfl)
      simp only [Act.put,sA,sB,sC]
      refine tn 11 ⟨some 30,_,_,_,_,_⟩ rfl (by kernel_rfl) (fun _ _ _ h=>h) (by rfl) (by assumption) ?_
      simp only [Act.put,sA,sB,sC]
      refine tn 12 ⟨some 31,_,_,_,_,_⟩ rfl (by kernel_rfl) (fun _ _ _ h=>h) (by rfl) (by assumption) ?_
      simp only [Act.put,sA,sB,sC]
      refine tn 13 ⟨some 32,_,_,_,_,_⟩ rfl (by kernel_rfl) (fun _ _ _ h=>h) (by rfl) (by assumption) ?_
      simp only [Act.put,sA,sB,sC]
      refine tn 14 ⟨some 33,_,_,_,_,_⟩ rfl (by kernel_rfl) (fun _ _ _ h=>h) (by rfl) (by assumption) ?_
      simp only [Act.put,sA,sB,sC]
      refine tn 15 ⟨some 34,_,_,_,_,_⟩ rfl (by kernel_rfl) (fun _ _ _ h=>h) (by rfl) (by assumption) ?_
      simp only [Act.put,sA,sB,sC]
      refine tn 16 ⟨some 35,_,_,_,_,_⟩ rfl (by kernel_rfl) (fun _ _ _ h=>h) (by rfl) (by assumption) ?_
      simp only [Act.put,sA,sB,sC]
      refine tn 17 ⟨some 36,_,_,_,_,_⟩ rfl (by kernel_rfl) (fun _ _ _ h=>h) (by rfl) (by assumption) ?_
      simp only [Act.put,sA,sB,sC]
      refine tn 18 ⟨some 37,_,_,_,_,_⟩ rfl (by kernel_rfl) (fun _ _ _ h=>h) (by rfl) (by assumption) ?_
      simp only [Act.put,sA,sB,sC]
      refine tn 19 ⟨some 38,_,_,_,_,_⟩ rfl (by kernel_rfl) (fun _ _ _ h=>h) (by rfl) (by assumption) ?_
      simp only [Act.put,sA,sB,sC]
      refine tn 20 ⟨some 39,_,_,_,_,_⟩ rfl (by kernel_rfl) (fun _ _ _ h=>h) (by rfl) (by assumption) ?_
      simp only [Act.put,sA,sB,sC]
      refine tk 21 ⟨some 40,_,_,_,_,_⟩ ?_ rfl (by kernel_rfl) (fun _ _ _ h=>h) (by rfl) ?_ (by assumption) ?_
      rotate_left
      ·intro w hSw;(try dsimp only at hSw);go_simp;(all_goals with_reducible rfl)
      simp only [Act.put,sA,sB,sC]
      refine wpAnyH_done (by kernel_rfl) ?_ _
      go_wp2_with fail
      refine(CQ.out _ (HB.out.keep hHeld.2.2.2.2.2.2.2.2.2.2.2.2.2.2.2.2.2.2.2.2) (HS.out.keep hHeld.2.2.2.2.2.2.2.2.2.2.2.2.2.2.2.2.2.2.2.2) (RA.out.keep hHeld.2.2.2.2.2.2.2.2.2.2.2.2.2.2.2.2.2.2.2.2)).mono ?_
      rintro e6 w6 ⟨rfl,k6⟩
      have s6:=keeph20 k6 hHeld
      clear k6 hHeld
      go_wp2_with fail
      go_roundw
      case rel=>exact⟨q+1,by omega,by go_num,ux,HF2,Lib.hid (.inr ⟨q,⟨ux,px,ax⟩,rfl,HZ.out,rfl⟩),s6.1,s6.2.1,s6.2.2.1,s6.2.2.2.1,s6.2.2.2.2.1,s6.2.2.2.2.2.1,s6.2.2.2.2.2.2.1,s6.2.2.2.2.2.2.2.1,s6.2.2.2.2.2.2.2.2.1,s6.2.2.2.2.2.2.2.2.2.1,s6.2.2.2.2.2.2.2.2.2.2.1,s6.2.2.2.2.2.2.2.2.2.2.2.1,s6.2.2.2.2.2.2.2.2.2.2.2.2.1,s6.2.2.2.2.2.2.2.2.2.2.2.2.2.1,s6.2.2.2.2.2.2.2.2.2.2.2.2.2.2.1,s6.2.2.2.2.2.2.2.2.2.2.2.2.2.2.2.1,s6.2.2.2.2.2.2.2.2.2.2.2.2.2.2.2.2.1,s6.2.2.2.2.2.2.2.2.2.2.2.2.2.2.2.2.2.2.2.2⟩
      case measure=>simp [intOf];omega
     ·have hd:(cc != 0)=true:=by simpa using h0
      have HST:Hid (R=(q,cc)):=Lib.hid (by rw [← HF.out,fstO_stop HZ.out (by rw [HCB.out];exact h0),HCB.out])
      go_upto_region 4 with (fail)
      have k5:Kp wr ((wr.alloc (.cells #[.int .i64 ux,.slice Ao np cx,.int .i64 ax] 53))):=((Kp.refl wr).alloc _)
      have s1:cb12 (((wr.alloc (.cells #[.int .i64 ux,.slice Ao np cx,.int .i64 ax] 53))).drew) (w.heap.size) (.slice At nt ct) (.slice Ak nk ck) (.int .i64 a) (.int .i64 b) (.int .i64 c) (.int .i64 d) (.int .i64 e) (.int .i64 W) (.int .i64 H) (x) (r) (y) (cb3 (((wr.alloc (.cells #[.int .i64 ux,.slice Ao np cx,.int .i64 ax] 53))).drew) (w.heap.size+1) (.int .i64 T) (.int .i64 Z) (u) (cb2 (((wr.alloc (.cells #[.int .i64 ux,.slice Ao np cx,.int .i64 ax] 53))).drew) (w.heap.size+1+1) (.int .i64 sd) (.slice (some ⟨g,off,none⟩) n co) (cb3 (((wr.alloc (.cells #[.int .i64 ux,.slice Ao np cx,.int .i64 ax] 53))).drew) (wr.heap.size) (.int .i64 ux) (.slice Ao np cx) (.int .i64 ax) (Kp w ((wr.alloc (.cells #[.int .i64 ux,.slice Ao np cx,.int .i64 ax] 53))).drew)))):=⟨k5.drew.cell sr.1,k5.drew.cell sr.2.1,k5.drew.cell sr.2.2.1,k5.drew.cell sr.2.2.2.1,k5.drew.cell sr.2.2.2.2.1,k5.drew.cell sr.2.2.2.2.2.1,k5.drew.cell sr.2.2.2.2.2.2.1,k5.drew.cell sr.2.2.2.2.2.2.2.1,k5.drew.cell sr.2.2.2.2.2.2.2.2.1,k5.drew.cell sr.2.2.2.2.2.2.2.2.2.1,k5.drew.cell sr.2.2.2.2.2.2.2.2.2.2.1,k5.drew.cell sr.2.2.2.2.2.2.2.2.2.2.2.1,k5.drew.cell sr.2.2.2.2.2.2.2.2.2.2.2.2.1,k5.drew.cell sr.2.2.2.2.2.2.2.2.2.2.2.2.2.1,k5.drew.cell sr.2.2.2.2.2.2.2.2.2.2.2.2.2.2.1,k5.drew.cell sr.2.2.2.2.2.2.2.2.2.2.2.2.2.2.2.1,k5.drew.cell sr.2.2.2.2.2.2.2.2.2.2.2.2.2.2.2.2.1,by simp [go_sem],by simp [go_sem],by simp [go_sem],sr.2.2.2.2.2.2.2.2.2.2.2.2.2.2.2.2.2.trans k5.drew⟩
      clear k5 sr a0 a1 a2
      refine wp_region_held_drew (S:=(fun w'=>cb12 w' (w.heap.size) (.slice At nt ct) (.slice Ak nk ck) (.int .i64 a) (.int .i64 b) (.int .i64 c) (.int .i64 d) (.int .i64 e) (.int .i64 W) (.int .i64 H) (x) (r) (y) (cb3 w' (w.heap.size+1) (.int .i64 T) (.int .i64 Z) (u) (cb2 w' (w.heap.size+1+1) (.int .i64 sd) (.slice (some ⟨g,off,none⟩) n co) (cb3 w' (wr.heap.size) (.int .i64 ux) (.slice Ao np cx) (.int .i64 ax) (Kp w w')))))) (by kernel_rfl) ?_ (fun hHeld=>?_)
      ·exact s1
      refine tk 0 ⟨some 19,_,_,_,_,_⟩ ?_ rfl (by kernel_rfl) (fun _ _ _ h=>h) (by rfl) ?_ (by assumption) ?_
      rotate_left
      ·intro w hSw;(try dsimp only at hSw);go_simp;(all_goals with_reducible rfl)
      simp only [Act.put,sA,sB,sC]
      refine tk 1 ⟨some 20,_,_,_,_,_⟩ ?_ rfl (by kernel_rfl) (fun _ _ _ h=>h) (by rfl) ?_ (by assumption) ?_
      rotate_left
      ·intro w hSw;(try dsimp only at hSw);go_simp;(all_goals with_reducible rfl)
      simp only [Act.put,sA,sB,sC]
      refine tk 2 ⟨some 21,_,_,_,_,_⟩ ?_ rfl (by kernel_rfl) (fun _ _ _ h=>h) (by rfl) ?_ (by assumption) ?_
      rotate_left
      ·intro w hSw;(try dsimp only at hSw);go_simp;(all_goals with_reducible rfl)
      simp only [Act.put,sA,sB,sC]
      refine tk 3 ⟨some 22,_,_,_,_,_⟩ ?_ rfl (by kernel_rfl) (fun _ _ _ h=>h) (by rfl) ?_ (by assumption) ?_
      rotate_left
      ·intro w hSw;(try dsimp only at hSw);go_simp;(all_goals with_reducible rfl)
      simp only [Act.put,sA,sB,sC]
      refine tk 4 ⟨some 23,_,_,_,_,_⟩ ?_ rfl (by kernel_rfl) (fun _ _ _ h=>h) (by rfl) ?_ (by assumption) ?_
      rotate_left
      ·intro w hSw;(try dsimp only at hSw);go_simp;(all_goals with_reducible rfl)
      simp only [Act.put,sA,sB,sC]
      refine wpAnyH_ready (rs:=[5]) (by kernel_rfl) (by simp) ?_
      refine AllReadyH.cons (o:=⟨some 24,_,_,_,_,_⟩) rfl (fun K hK=>?_) AllReadyH.nil
      go_simp
      refine(CP.out _ (HS.out.keep hHeld.2.2.2.2.2.2.2.2.2.2.2.2.2.2.2.2.2.2.2.2)).mono ?_;rintro e1 w1 ⟨rfl,k1⟩;have s2:=keeph20 k1 hHeld
      go_wp2_with fail
      refine hK.out _ _ ?_ (fun hHeld=>?_)
      ·(try dsimp only);(first | assumption | exact s2 | exact s1)
      clear hK K
      try simp only [Act.put,sA,sB,sC]
      refine tk 6 ⟨some 25,_,_,_,_,_⟩ ?_ rfl (by kernel_rfl) (fun _ _ _ h=>h) (by rfl) ?_ (by assumption) ?_
      rotate_left
      ·intro w hSw;(try dsimp only at hSw);go_simp;(all_goals with_reducible rfl)
      simp only [Act.put,sA,sB,sC]
      refine tk 7 ⟨some 26,_,_,_,_,_⟩ ?_ rfl (by kernel_rfl) (fun _ _ _ h=>h) (by rfl) ?_ (by assumption) ?_
      rotate_left
      ·intro w hSw;(try dsimp only at hSw);go_simp;(all_goals with_reducible rfl)
      simp only [Act.put,sA,sB,sC]
      refine tk 8 ⟨some 27,_,_,_,_,_⟩ ?_ rfl (by kernel_rfl) (fun _ _ _ h=>h) (by rfl) ?_ (by assumption) ?_
      rotate_left
      ·intro w hSw;(try dsimp only at hSw);go_simp;(all_goals with_reducible rfl)
      simp only [Act.put,sA,sB,sC]
      refine tk 9 ⟨some 28,_,_,_,_,_⟩ ?_ rfl (by kernel_rfl) (fun _ _ _ h=>h) (by rfl) ?_ (by assumption) ?_
      rotate_left
      ·intro w hSw;(try dsimp only at hSw);go_simp;(all_goals with_reducible rfl)
      simp only [Act.put,sA,sB,sC]
      refine tk 10 ⟨some 29,_,_,_,_,_⟩ ?_ rfl (by kernel_rfl) (fun _ _ _ h=>h) (by rfl) ?_ (by assumption) ?_
      rotate_left
      ·intro w hSw;(try dsimp only at hSw);go_simp;(all_goals with_reducible rfl)
      simp only [Act.put,sA,sB,sC]
      refine tn 11 ⟨some 30,_,_,_,_,_⟩ rfl (by kernel_rfl) (fun _ _ _ h=>h) (by rfl) (by assumption) ?_
      simp only [Act.put,sA,sB,sC]
      refine tn 12 ⟨some 31,_,_,_,_,_⟩ rfl (by kernel_rfl) (fun _ _ _ h=>h) (by rfl) (by assumption) ?_
      simp only [Act.put,sA,sB,sC]
      refine tn 13 ⟨some 32,_,_,_,_,_⟩ rfl (by kernel_rfl) (fun _ _ _ h=>h) (by rfl) (by assumption) ?_
      simp only [Act.put,sA,sB,sC]
      refine tn 14 ⟨some 33,_,_,_,_,_⟩ rfl (by kernel_rfl) (fun _ _ _ h=>h) (by rfl) (by assumption) ?_
      simp only [Act.put,sA,sB,sC]
      refine tn 15 ⟨some 34,_,_,_,_,_⟩ rfl (by kernel_rfl) (fun _ _ _ h=>h) (by rfl) (by assumption) ?_
      simp only [Act.put,sA,sB,sC]
      refine tn 16 ⟨some 35,_,_,_,_,_⟩ rfl (by kernel_rfl) (fun _ _ _ h=>h) (by rfl) (by assumption) ?_
      simp only [Act.put,sA,sB,sC]
      refine tn 17 ⟨some 36,_,_,_,_,_⟩ rfl (by kernel_rfl) (fun _ _ _ h=>h) (by rfl) (by assumption) ?_
      simp only [Act.put,sA,sB,sC]
      refine tn 18 ⟨some 37,_,_,_,_,_⟩ rfl (by kernel_rfl) (fun _ _ _ h=>h) (by rfl) (by assumption) ?_
      simp only [Act.put,sA,sB,sC]
      refine tn 19 ⟨some 38,_,_,_,_,_⟩ rfl (by kernel_rfl) (fun _ _ _ h=>h) (by rfl) (by assumption) ?_
      simp only [Act.put,sA,sB,sC]
      refine tn 20 ⟨some 39,_,_,_,_,_⟩ rfl (by kernel_rfl) (fun _ _ _ h=>h) (by rfl) (by assumption) ?_
      simp only [Act.put,sA,sB,sC]
      refine tk 21 ⟨some 40,_,_,_,_,_⟩ ?_ rfl (by kernel_rfl) (fun _ _ _ h=>h) (by rfl) ?_ (by assumption) ?_
      rotate_left
      ·intro w hSw;(try dsimp only at hSw);go_simp;(all_goals with_reducible rfl)
      simp only [Act.put,sA,sB,sC]
      refine wpAnyH_done (by kernel_rfl) ?_ _
      go_wp2_with fail
      refine(CQ.out _ (HB.out.keep hHeld.2.2.2.2.2.2.2.2.2.2.2.2.2.2.2.2.2.2.2.2) (HS.out.keep hHeld.2.2.2.2.2.2.2.2.2.2.2.2.2.2.2.2.2.2.2.2) (RA.out.keep hHeld.2.2.2.2.2.2.2.2.2.2.2.2.2.2.2.2.2.2.2.2)).mono ?_
      rintro e6 w6 ⟨rfl,k6⟩
      have s6:=keeph20 k6 hHeld
      clear k6 hHeld
      go_wp2_with fail
      rw [HST.out]
      go_ret2
      exact⟨rfl,s6.2.2.2.2.2.2.2.2.2.2.2.2.2.2.2.2.2.2.2.2⟩
    ·have hq0:(0:Int)<(q:Int):=by omega
     have hq1:0<q:=by omega
     have e0:IntKind.i64.wrap ((q:Int) - 1)=(q':Int):=by rw [hq];exact(IntWalk.i64_in _ (by omega)).trans (by omega)
     have hqq:(q':Int)<n:=by omega
     obtain⟨_,_,⟨b0w,_,_⟩,_⟩:=HCC.out q' zp hy
     have b0:=sr.2.2.2.2.2.2.2.2.2.2.2.2.2.2.2.2.2.cell b0w
     rw [hyu] at b0
     clear b0w hy hyu hq
     by_cases hle:ux≤bf
     ·have HCB:Hid (C bf ⟨ux,px,ax⟩=2):=Lib.hid (by rw [HC.out];unfold ordG ordF;simp only;rw [hpc,if_pos rfl,if_pos hle])
      have HST:Hid (R=(q,2)):=Lib.hid (by rw [← HF.out,fstO_stop HZ.out (by rw [HCB.out];decide),HCB.out])
      go_upto_region 4 with (fail)
      have k5:Kp wr ((wr.alloc (.cells #[.int .i64 ux,.slice Ao np cx,.int .i64 ax] 53))):=((Kp.refl wr).alloc _)
      have s1:cb12 (((wr.alloc (.cells #[.int .i64 ux,.slice Ao np cx,.int .i64 ax] 53))).drew) (w.heap.size) (.slice At nt ct) (.slice Ak nk ck) (.int .i64 a) (.int .i64 b) (.int .i64 c) (.int .i64 d) (.int .i64 e) (.int .i64 W) (.int .i64 H) (x) (r) (y) (cb3 (((wr.alloc (.cells #[.int .i64 ux,.slice Ao np cx,.int .i64 ax] 53))).drew) (w.heap.size+1) (.int .i64 T) (.int .i64 Z) (u) (cb2 (((wr.alloc (.cells #[.int .i64 ux,.slice Ao np cx,.int .i64 ax] 53))).drew) (w.heap.size+1+1) (.int .i64 sd) (.slice (some ⟨g,off,none⟩) n co) (cb3 (((wr.alloc (.cells #[.int .i64 ux,.slice Ao np cx,.int .i64 ax] 53))).drew) (wr.heap.size) (.int .i64 ux) (.slice Ao np cx) (.int .i64 ax) (((wr.alloc (.cells #[.int .i64 ux,.slice Ao np cx,.int .i64 ax] 53))).drew.cell? ⟨g,off+q'*3,none⟩=some (.int .i64 bf)∧Kp w ((wr.alloc (.cells #[.int .i64 ux,.slice Ao np cx,.int .i64 ax] 53))).drew)))):=⟨k5.drew.cell sr.1,k5.drew.cell sr.2.1,k5.drew.cell sr.2.2.1,k5.drew.cell sr.2.2.2.1,k5.drew.cell sr.2.2.2.2.1,k5.drew.cell sr.2.2.2.2.2.1,k5.drew.cell sr.2.2.2.2.2.2.1,k5.drew.cell sr.2.2.2.2.2.2.2.1,k5.drew.cell sr.2.2.2.2.2.2.2.2.1,k5.drew.cell sr.2.2.2.2.2.2.2.2.2.1,k5.drew.cell sr.2.2.2.2.2.2.2.2.2.2.1,k5.drew.cell sr.2.2.2.2.2.2.2.2.2.2.2.1,k5.drew.cell sr.2.2.2.2.2.2.2.2.2.2.2.2.1,k5.drew.cell sr.2.2.2.2.2.2.2.2.2.2.2.2.2.1,k5.drew.cell sr.2.2.2.2.2.2.2.2.2.2.2.2.2.2.1,k5.drew.cell sr.2.2.2.2.2.2.2.2.2.2.2.2.2.2.2.1,k5.drew.cell sr.2.2.2.2.2.2.2.2.2.2.2.2.2.2.2.2.1,by simp [go_sem],by simp [go_sem],by simp [go_sem],k5.drew.cell b0,sr.2.2.2.2.2.2.2.2.2.2.2.2.2.2.2.2.2.trans k5.drew⟩
      clear k5 sr a0 a1 a2 b0
      refine wp_region_held_drew (S:=(fun w'=>cb12 w' (w.heap.size) (.slice At nt ct) (.slice Ak nk ck) (.int .i64 a) (.int .i64 b) (.int .i64 c) (.int .i64 d) (.int .i64 e) (.int .i64 W) (.int .i64 H) (x) (r) (y) (cb3 w' (w.heap.size+1) (.int .i64 T) (.int .i64 Z) (u) (cb2 w' (w.heap.size+1+1) (.int .i64 sd) (.slice (some ⟨g,off,none⟩) n co) (cb3 w' (wr.heap.size) (.int .i64 ux) (.slice Ao np cx) (.int .i64 ax) (w'.cell? ⟨g,off+q'*3,none⟩=some (.int .i64 bf)∧Kp w w')))))) (by kernel_rfl) ?_ (fun hHeld=>?_)
      ·exact s1
      refine tk 0 ⟨some 19,_,_,_,_,_⟩ ?_ rfl (by kernel_rfl) (fun _ _ _ h=>h) (by rfl) ?_ (by assumption) ?_
      rotate_left
      ·intro w hSw;(try dsimp only at hSw);go_simp;(all_goals with_reducible rfl)
      simp only [Act.put,sA,sB,sC]
      refine tk 1 ⟨some 20,_,_,_,_,_⟩ ?_ rfl (by kernel_rfl) (fun _ _ _ h=>h) (by rfl) ?_ (by assumption) ?_
      rotate_left
      ·intro w hSw;(try dsimp only at hSw);go_simp;(all_goals with_reducible rfl)
      simp only [Act.put,sA,sB,sC]
      refine tk 2 ⟨some 21,_,_,_,_,_⟩ ?_ rfl (by kernel_rfl) (fun _ _ _ h=>h) (by rfl) ?_ (by assumption) ?_
      rotate_left
      ·intro w hSw;(try dsimp only at hSw);go_simp;(all_goals with_reducible rfl)
      simp only [Act.put,sA,sB,sC]
      refine tk 3 ⟨some 22,_,_,_,_,_⟩ ?_ rfl (by kernel_rfl) (fun _ _ _ h=>h) (by rfl) ?_ (by assumption) ?_
      rotate_left
      ·intro w hSw;(try dsimp only at hSw);go_simp;(all_goals with_reducible rfl)
      simp only [Act.put,sA,sB,sC]
      refine tk 4 ⟨some 23,_,_,_,_,_⟩ ?_ rfl (by kernel_rfl) (fun _ _ _ h=>h) (by rfl) ?_ (by assumption) ?_
      rotate_left
      ·intro w hSw;(try dsimp only at hSw);go_simp;(all_goals with_reducible rfl)
      simp only [Act.put,sA,sB,sC]
      refine wpAnyH_ready (rs:=[5]) (by kernel_rfl) (by simp) ?_
      refine AllReadyH.cons (o:=⟨some 24,_,_,_,_,_⟩) rfl (fun K hK=>?_) AllReadyH.nil
      go_simp
      refine(CP.out _ (HS.out.keep hHeld.2.2.2.2.2.2.2.2.2.2.2.2.2.2.2.2.2.2.2.2.2)).mono ?_;rintro e1 w1 ⟨rfl,k1⟩;have s2:=keeph21 k1 hHeld
      go_wp2_with fail
      refine hK.out _ _ ?_ (fun hHeld=>?_)
      ·(try dsimp only);(first | assumption | exact s2 | exact s1)
      clear hK K
      try simp only [Act.put,sA,sB,sC]
      refine tk 6 ⟨some 25,_,_,_,_,_⟩ ?_ rfl (by kernel_rfl) (fun _ _ _ h=>h) (by rfl) ?_ (by assumption) ?_
      rotate_left
      ·intro w hSw;(try dsimp only at hSw);go_simp;(all_goals with_reducible rfl)
      simp only [Act.put,sA,sB,sC]
      refine tk 7 ⟨some 26,_,_,_,_,_⟩ ?_ rfl (by kernel_rfl) (fun _ _ _ h=>h) (by rfl) ?_ (by assumption) ?_
      rotate_left
      ·intro w hSw;(try dsimp only at hSw);go_simp;(all_goals with_reducible rfl)
      simp only [Act.put,sA,sB,sC]
      refine tk 8 ⟨some 27,_,_,_,_,_⟩ ?_ rfl (by kernel_rfl) (fun _ _ _ h=>h) (by rfl) ?_ (by assumption) ?_
      rotate_left
      ·intro w hSw;(try dsimp only at hSw);go_simp;(all_goals with_reducible rfl)
      simp only [Act.put,sA,sB,sC]
      refine tk 9 ⟨some 28,_,_,_,_,_⟩ ?_ rfl (by kernel_rfl) (fun _ _ _ h=>h) (by rfl) ?_ (by assumption) ?_
      rotate_left
      ·intro w hSw;(try dsimp only at hSw);go_simp;(all_goals with_reducible rfl)
      simp only [Act.put,sA,sB,sC]
      refine tk 10 ⟨some 29,_,_,_,_,_⟩ ?_ rfl (by kernel_rfl) (fun _ _ _ h=>h) (by rfl) ?_ (by assumption) ?_
      rotate_left
      ·intro w hSw;(try dsimp only at hSw);go_simp;(all_goals with_reducible rfl)
      simp only [Act.put,sA,sB,sC]
      refine tk 11 ⟨some 30,_,_,_,_,_⟩ ?_ rfl (by kernel_rfl) (fun _ _ _ h=>h) (by rfl) ?_ (by assumption) ?_
      rotate_left
      ·intro w hSw;(try dsimp only at hSw);go_simp;(all_goals with_reducible rfl)
      simp only [Act.put,sA,sB,sC]
      refine tk 12 ⟨some 31,_,_,_,_,_⟩ ?_ rfl (by kernel_rfl) (fun _ _ _ h=>h) (by rfl) ?_ (by assumption) ?_
      rotate_left
      ·intro w hSw;(try dsimp only at hSw);go_simp;(all_goals with_reducible rfl)
      simp only [Act.put,sA,sB,sC]
      refine tk 13 ⟨some 32,_,_,_,_,_⟩ ?_ rfl (by kernel_rfl) (fun _ _ _ h=>h) (by rfl) ?_ (by assumption) ?_
      rotate_left
      ·intro w hSw;(try dsimp only at hSw);go_simp;(all_goals with_reducible rfl)
      simp only [Act.put,sA,sB,sC]
      refine tk 14 ⟨some 33,_,_,_,_,_⟩ ?_ rfl (by kernel_rfl) (fun _ _ _ h=>h) (by rfl) ?_ (by assumption) ?_
      rotate_left
      ·intro w hSw;(try dsimp only at hSw);go_simp;(all_goals with_reducible rfl)
      simp only [Act.put,sA,sB,sC]
      refine tk 15 ⟨some 34,_,_,_,_,_⟩ ?_ rfl (by kernel_rfl) (fun _ _ _ h=>h) (by rfl) ?_ (by assumption) ?_
      rotate_left
      ·intro w hSw;(try dsimp only at hSw);go_simp;(all_goals with_reducible rfl)
      simp only [Act.put,sA,sB,sC]
      refine tk 16 ⟨some 35,_,_,_,_,_⟩ ?_ rfl (by kernel_rfl) (fun _ _ _ h=>h) (by rfl) ?_ (by assumption) ?_
      rotate_left
      ·intro w hSw;(try dsimp only at hSw);go_simp;(all_goals with_reducible rfl)
      simp only [Act.put,sA,sB,sC]
      refine tk 17 ⟨some 36,_,_,_,_,_⟩ ?_ rfl (by kernel_rfl) (fun _ _ _ h=>h) (by rfl) ?_ (by assumption) ?_
      rotate_left
      ·intro w hSw;(try dsimp only at hSw);go_simp;(all_goals with_reducible rfl)
      simp only [Act.put,sA,sB,sC]
      refine tk 18 ⟨some 37,_,_,_,_,_⟩ ?_ rfl (by kernel_rfl) (fun _ _ _ h=>h) (by rfl) ?_ (by assumption) ?_
      rotate_left
      ·intro w hSw;(try dsimp only at hSw);go_simp;(all_goals with_reducible rfl)
      simp only [Act.put,sA,sB,sC]
      refine tk 19 ⟨some 38,_,_,_,_,_⟩ ?_ rfl (by kernel_rfl) (fun _ _ _ h=>h) (by rfl) ?_ (by assumption) ?_
      rotate_left
      ·intro w hSw;(try dsimp only at hSw);go_simp;(all_goals with_reducible rfl)
      simp only [Act.put,sA,sB,sC]
      refine tk 20 ⟨some 39,_,_,_,_,_⟩ ?_ rfl (by kernel_rfl) (fun _ _ _ h=>h) (by rfl) ?_ (by assumption) ?_
      rotate_left
      ·intro w hSw;(try dsimp only at hSw);go_simp;(all_goals with_reducible rfl)
      simp only [Act.put,sA,sB,sC]
      refine tk 21 ⟨some 40,_,_,_,_,_⟩ ?_ rfl (by kernel_rfl) (fun _ _ _ h=>h) (by rfl) ?_ (by assumption) ?_
      rotate_left
      ·intro w hSw;(try dsimp only at hSw);go_simp;(all_goals with_reducible rfl)
      simp only [Act.put,sA,sB,sC]
      refine wpAnyH_done (by kernel_rfl) ?_ _
      go_wp2_with fail
      rw [HST.out]
      go_ret2
      exact⟨rfl,hHeld.2.2.2.2.2.2.2.2.2.2.2.2.2.2.2.2.2.2.2.2.2⟩
     ·skip
      have HCB:Hid (C bf ⟨ux,px,ax⟩=cc):=Lib.hid (by rw [HC.out];unfold ordG;simp only;rw [ordF_lt (fun _=>hle)];exact HCD.out.symm)
      by_cases h0:cc=0
      ·subst h0
       have HF2:Hid (fstO C ux (q+1) (xs.drop (q+1))=R):=Lib.hid ((fstO_step HZ.out HCB.out).symm.trans HF.out)
       go_upto_region 4 with (fail)
       have k5:Kp wr ((wr.alloc (.cells #[.int .i64 ux,.slice Ao np cx,.int .i64 ax] 53))):=((Kp.refl wr).alloc _)
       have s1:cb12 (((wr.alloc (.cells #[.int .i64 ux,.slice Ao np cx,.int .i64 ax] 53))).drew) (w.heap.size) (.slice At nt ct) (.slice Ak nk ck) (.int .i64 a) (.int .i64 b) (.int .i64 c) (.int .i64 d) (.int .i64 e) (.int .i64 W) (.int .i64 H) (x) (r) (y) (cb3 (((wr.alloc (.cells #[.int .i64 ux,.slice Ao np cx,.int .i64 ax] 53))).drew) (w.heap.size+1) (.int .i64 T) (.int .i64 Z) (u) (cb2 (((wr.alloc (.cells #[.int .i64 ux,.slice Ao np cx,.int .i64 ax] 53))).drew) (w.heap.size+1+1) (.int .i64 sd) (.slice (some ⟨g,off,none⟩) n co) (cb3 (((wr.alloc (.cells #[.int .i64 ux,.slice Ao np cx,.int .i64 ax] 53))).drew) (wr.heap.size) (.int .i64 ux) (.slice Ao np cx) (.int .i64 ax) (((wr.alloc (.cells #[.int .i64 ux,.slice Ao np cx,.int .i64 ax] 53))).drew.cell? ⟨g,off+q'*3,none⟩=some (.int .i64 bf)∧Kp w ((wr.alloc (.cells #[.int .i64 ux,.slice Ao np cx,.int .i64 ax] 53))).drew)))):=⟨k5.drew.cell sr.1,k5.drew.cell sr.2.1,k5.drew.cell sr.2.2.1,k5.drew.cell sr.2.2.2.1,k5.drew.cell sr.2.2.2.2.1,k5.drew.cell sr.2.2.2.2.2.1,k5.drew.cell sr.2.2.2.2.2.2.1,k5.drew.cell sr.2.2.2.2.2.2.2.1,k5.drew.cell sr.2.2.2.2.2.2.2.2.1,k5.drew.cell sr.2.2.2.2.2.2.2.2.2.1,k5.drew.cell sr.2.2.2.2.2.2.2.2.2.2.1,k5.drew.cell sr.2.2.2.2.2.2.2.2.2.2.2.1,k5.drew.cell sr.2.2.2.2.2.2.2.2.2.2.2.2.1,k5.drew.cell sr.2.2.2.2.2.2.2.2.2.2.2.2.2.1,k5.drew.cell sr.2.2.2.2.2.2.2.2.2.2.2.2.2.2.1,k5.drew.cell sr.2.2.2.2.2.2.2.2.2.2.2.2.2.2.2.1,k5.drew.cell sr.2.2.2.2.2.2.2.2.2.2.2.2.2.2.2.2.1,by simp [go_sem],by simp [go_sem],by simp [go_sem],k5.drew.cell b0,sr.2.2.2.2.2.2.2.2.2.2.2.2.2.2.2.2.2.trans k5.drew⟩
       clear k5 sr a0 a1 a2 b0
       refine wp_region_held_drew (S:=(fun w'=>cb12 w' (w.heap.size) (.slice At nt ct) (.slice Ak nk ck) (.int .i64 a) (.int .i64 b) (.int .i64 c) (.int .i64 d) (.int .i64 e) (.int .i64 W) (.int .i64 H) (x) (r) (y) (cb3 w' (w.heap.size+1) (.int .i64 T) (.int .i64 Z) (u) (cb2 w' (w.heap.size+1+1) (.int .i64 sd) (.slice (some ⟨g,off,none⟩) n co) (cb3 w' (wr.heap.size) (.int .i64 ux) (.slice Ao np cx) (.int .i64 ax) (w'.cell? ⟨g,off+q'*3,none⟩=some (.int .i64 bf)∧Kp w w')))))) (by kernel_rfl) ?_ (fun hHeld=>?_)
       ·exact s1
       refine tk 0 ⟨some 19,_,_,_,_,_⟩ ?_ rfl (by kernel_rfl) (fun _ _ _ h=>h) (by rfl) ?_ (by assumption) ?_
       rotate_left
       ·intro w hSw;(try dsimp only at hSw);go_simp;(all_goals with_reducible rfl)
       simp only [Act.put,sA,sB,sC]
       refine tk 1 ⟨some 20,_,_,_,_,_⟩ ?_ rfl (by kernel_rfl) (fun _ _ _ h=>h) (by rfl) ?_ (by assumption) ?_
       rotate_left
       ·intro w hSw;(try dsimp only at hSw);go_simp;(all_goals with_reducible rfl)
       simp only [Act.put,sA,sB,sC]
       refine tk 2 ⟨some 21,_,_,_,_,_⟩ ?_ rfl (by kernel_rfl) (fun _ _ _ h=>h) (by rfl) ?_ (by assumption) ?_
       rotate_left
       ·intro w hSw;(try dsimp only at hSw);go_simp;(all_goals with_reducible rfl)
       simp only [Act.put,sA,sB,sC]
       refine tk 3 ⟨some 22,_,_,_,_,_⟩ ?_ rfl (by kernel_rfl) (fun _ _ _ h=>h) (by rfl) ?_ (by assumption) ?_
       rotate_left
       ·intro w hSw;(try dsimp only at hSw);go_simp;(all_goals with_reducible rfl)
       simp only [Act.put,sA,sB,sC]
       refine tk 4 ⟨some 23,_,_,_,_,_⟩ ?_ rfl (by kernel_rfl) (fun _ _ _ h=>h) (by rfl) ?_ (by assumption) ?_
       rotate_left
       ·intro w hSw;(try dsimp only at hSw);go_simp;(all_goals with_reducible rfl)
       simp only [Act.put,sA,sB,sC]
       refine wpAnyH_ready (rs:=[5]) (by kernel_rfl) (by simp) ?_
       refine AllReadyH.cons (o:=⟨some 24,_,_,_,_,_⟩) rfl (fun K hK=>?_) AllReadyH.nil
       go_simp
       refine(CP.out _ (HS.out.keep hHeld.2.2.2.2.2.2.2.2.2.2.2.2.2.2.2.2.2.2.2.2.2)).mono ?_;rintro e1 w1 ⟨rfl,k1⟩;have s2:=keeph21 k1 hHeld
       go_wp2_with fail
       refine hK.out _ _ ?_ (fun hHeld=>?_)
       ·(try dsimp only);(first | assumption | exact s2 | exact s1)
       clear hK K
       try simp only [Act.put,sA,sB,sC]
       refine tk 6 ⟨some 25,_,_,_,_,_⟩ ?_ rfl (by kernel_rfl) (fun _ _ _ h=>h) (by rfl) ?_ (by assumption) ?_
       rotate_left
       ·intro w hSw;(try dsimp only at hSw);go_simp;(all_goals with_reducible rfl)
       simp only [Act.put,sA,sB,sC]
       refine tk 7 ⟨some 26,_,_,_,_,_⟩ ?_ rfl (by kernel_rfl) (fun _ _ _ h=>h) (by rfl) ?_ (by assumption) ?_
       rotate_left
       ·intro w hSw;(try dsimp only at hSw);go_simp;(all_goals with_reducible rfl)
       simp only [Act.put,sA,sB,sC]
       refine tk 8 ⟨some 27,_,_,_,_,_⟩ ?_ rfl (by kernel_rfl) (fun _ _ _ h=>h) (by rfl) ?_ (by assumption) ?_
       rotate_left
       ·intro w hSw;(try dsimp only at hSw);go_simp;(all_goals with_reducible rfl)
       simp only [Act.put,sA,sB,sC]
       refine tk 9 ⟨some 28,_,_,_,_,_⟩ ?_ rfl (by kernel_rfl) (fun _ _ _ h=>h) (by rfl) ?_ (by assumption) ?_
       rotate_left
       ·intro w hSw;(try dsimp only at hSw);go_simp;(all_goals with_reducible rfl)
       simp only [Act.put,sA,sB,sC]
       refine tk 10 ⟨some 29,_,_,_,_,_⟩ ?_ rfl (by kernel_rfl) (fun _ _ _ h=>h) (by rfl) ?_ (by assumption) ?_
       rotate_left
       ·intro w hSw;(try dsimp only at hSw);go_simp;(all_goals with_reducible rfl)
       simp only [Act.put,sA,sB,sC]
       refine tk 11 ⟨some 30,_,_,_,_,_⟩ ?_ rfl (by kernel_rfl) (fun _ _ _ h=>h) (by rfl) ?_ (by assumption) ?_
       rotate_left
       ·intro w hSw;(try dsimp only at hSw);go_simp;(all_goals with_reducible rfl)
       simp only [Act.put,sA,sB,sC]
       refine tk 12 ⟨some 31,_,_,_,_,_⟩ ?_ rfl (by kernel_rfl) (fun _ _ _ h=>h) (by rfl) ?_ (by assumption) ?_
       rotate_left
       ·intro w hSw;(try dsimp only at hSw);go_simp;(all_goals with_reducible rfl)
       simp only [Act.put,sA,sB,sC]
       refine tk 13 ⟨some 32,_,_,_,_,_⟩ ?_ rfl (by kernel_rfl) (fun _ _ _ h=>h) (by rfl) ?_ (by assumption) ?_
       rotate_left
       ·intro w hSw;(try dsimp only at hSw);go_simp;(all_goals with_reducible rfl)
       simp only [Act.put,sA,sB,sC]
       refine tk 14 ⟨some 33,_,_,_,_,_⟩ ?_ rfl (by kernel_rfl) (fun _ _ _ h=>h) (by rfl) ?_ (by assumption) ?_
       rotate_left
       ·intro w hSw;(try dsimp only at hSw);go_simp;(all_goals with_reducible rfl)
       simp only [Act.put,sA,sB,sC]
       refine tk 15 ⟨some 34,_,_,_,_,_⟩ ?_ rfl (by kernel_rfl) (fun _ _ _ h=>h) (by rfl) ?_ (by assumption) ?_
       rotate_left
       ·intro w hSw;(try dsimp only at hSw);go_simp;(all_goals with_reducible rfl)
       simp only [Act.put,sA,sB,sC]
       refine tk 16 ⟨some 35,_,_,_,_,_⟩ ?_ rfl (by kernel_rfl) (fun _ _ _ h=>h) (by rfl) ?_ (by assumption) ?_
       rotate_left
       ·intro w hSw;(try dsimp only at hSw);go_simp;(all_goals with_reducible rfl)
       simp only [Act.put,sA,sB,sC]
       refine tk 17 ⟨some 36,_,_,_,_,_⟩ ?_ rfl (by kernel_rfl) (fun _ _ _ h=>h) (by rfl) ?_ (by assumption) ?_
       rotate_left
       ·intro w hSw;(try dsimp only at hSw);go_simp;(all_goals with_reducible rfl)
       simp only [Act.put,sA,sB,sC]
       refine tk 18 ⟨some 37,_,_,_,_,_⟩ ?_ rfl (by kernel_rfl) (fun _ _ _ h=>h) (by rfl) ?_ (by assumption) ?_
       rotate_left
       ·intro w hSw;(try dsimp only at hSw);go_simp;(all_goals with_reducible rfl)
       simp only [Act.put,sA,sB,sC]
       refine tk 19 ⟨some 38,_,_,_,_,_⟩ ?_ rfl (by kernel_rfl) (fun _ _ _ h=>h) (by rfl) ?_ (by assumption) ?_
       rotate_left
       ·intro w hSw;(try dsimp only at hSw);go_simp;(all_goals with_reducible rfl)
       simp only [Act.put,sA,sB,sC]
       refine tk 20 ⟨some 39,_,_,_,_,_⟩ ?_ rfl (by kernel_rfl) (fun _ _ _ h=>h) (by rfl) ?_ (by assumption) ?_
       rotate_left
       ·intro w hSw;(try dsimp only at hSw);go_simp;(all_goals with_reducible rfl)
       simp only [Act.put,sA,sB,sC]
       refine tk 21 ⟨some 40,_,_,_,_,_⟩ ?_ rfl (by kernel_rfl) (fun _ _ _ h=>h) (by rfl) ?_ (by assumption) ?_
       rotate_left
       ·intro w hSw;(try dsimp only at hSw);go_simp;(all_goals with_reducible rfl)
       simp only [Act.put,sA,sB,sC]
       refine wpAnyH_done (by kernel_rfl) ?_ _
       go_wp2_with fail
       refine(CQ.out _ (HB.out.keep hHeld.2.2.2.2.2.2.2.2.2.2.2.2.2.2.2.2.2.2.2.2.2) (HS.out.keep hHeld.2.2.2.2.2.2.2.2.2.2.2.2.2.2.2.2.2.2.2.2.2) (RA.out.keep hHeld.2.2.2.2.2.2.2.2.2.2.2.2.2.2.2.2.2.2.2.2.2)).mono ?_
       rintro e6 w6 ⟨rfl,k6⟩
       have s6:=keeph21 k6 hHeld
       clear k6 hHeld
       go_wp2_with fail
       go_roundw
       case rel=>exact⟨q+1,by omega,by go_num,ux,HF2,Lib.hid (.inr ⟨q,⟨ux,px,ax⟩,rfl,HZ.out,rfl⟩),s6.1,s6.2.1,s6.2.2.1,s6.2.2.2.1,s6.2.2.2.2.1,s6.2.2.2.2.2.1,s6.2.2.2.2.2.2.1,s6.2.2.2.2.2.2.2.1,s6.2.2.2.2.2.2.2.2.1,s6.2.2.2.2.2.2.2.2.2.1,s6.2.2.2.2.2.2.2.2.2.2.1,s6.2.2.2.2.2.2.2.2.2.2.2.1,s6.2.2.2.2.2.2.2.2.2.2.2.2.1,s6.2.2.2.2.2.2.2.2.2.2.2.2.2.1,s6.2.2.2.2.2.2.2.2.2.2.2.2.2.2.1,s6.2.2.2.2.2.2.2.2.2.2.2.2.2.2.2.1,s6.2.2.2.2.2.2.2.2.2.2.2.2.2.2.2.2.1,s6.2.2.2.2.2.2.2.2.2.2.2.2.2.2.2.2.2.2.2.2.2⟩
       case measure=>simp [intOf];omega
      ·have hd:(cc != 0)=true:=by simpa using h0
       have HST:Hid (R=(q,cc)):=Lib.hid (by rw [← HF.out,fstO_stop HZ.out (by rw [HCB.out];exact h0),HCB.out])
       go_upto_region 4 with (fail)
       have k5:Kp wr ((wr.alloc (.cells #[.int .i64 ux,.slice Ao np cx,.int .i64 ax] 53))):=((Kp.refl wr).alloc _)
       have s1:cb12 (((wr.alloc (.cells #[.int .i64 ux,.slice Ao np cx,.int .i64 ax] 53))).drew) (w.heap.size) (.slice At nt ct) (.slice Ak nk ck) (.int .i64 a) (.int .i64 b) (.int .i64 c) (.int .i64 d) (.int .i64 e) (.int .i64 W) (.int .i64 H) (x) (r) (y) (cb3 (((wr.alloc (.cells #[.int .i64 ux,.slice Ao np cx,.int .i64 ax] 53))).drew) (w.heap.size+1) (.int .i64 T) (.int .i64 Z) (u) (cb2 (((wr.alloc (.cells #[.int .i64 ux,.slice Ao np cx,.int .i64 ax] 53))).drew) (w.heap.size+1+1) (.int .i64 sd) (.slice (some ⟨g,off,none⟩) n co) (cb3 (((wr.alloc (.cells #[.int .i64 ux,.slice Ao np cx,.int .i64 ax] 53))).drew) (wr.heap.size) (.int .i64 ux) (.slice Ao np cx) (.int .i64 ax) (((wr.alloc (.cells #[.int .i64 ux,.slice Ao np cx,.int .i64 ax] 53))).drew.cell? ⟨g,off+q'*3,none⟩=some (.int .i64 bf)∧Kp w ((wr.alloc (.cells #[.int .i64 ux,.slice Ao np cx,.int .i64 ax] 53))).drew)))):=⟨k5.drew.cell sr.1,k5.drew.cell sr.2.1,k5.drew.cell sr.2.2.1,k5.drew.cell sr.2.2.2.1,k5.drew.cell sr.2.2.2.2.1,k5.drew.cell sr.2.2.2.2.2.1,k5.drew.cell sr.2.2.2.2.2.2.1,k5.drew.cell sr.2.2.2.2.2.2.2.1,k5.drew.cell sr.2.2.2.2.2.2.2.2.1,k5.drew.cell sr.2.2.2.2.2.2.2.2.2.1,k5.drew.cell sr.2.2.2.2.2.2.2.2.2.2.1,k5.drew.cell sr.2.2.2.2.2.2.2.2.2.2.2.1,k5.drew.cell sr.2.2.2.2.2.2.2.2.2.2.2.2.1,k5.drew.cell sr.2.2.2.2.2.2.2.2.2.2.2.2.2.1,k5.drew.cell sr.2.2.2.2.2.2.2.2.2.2.2.2.2.2.1,k5.drew.cell sr.2.2.2.2.2.2.2.2.2.2.2.2.2.2.2.1,k5.drew.cell sr.2.2.2.2.2.2.2.2.2.2.2.2.2.2.2.2.1,by simp [go_sem],by simp [go_sem],by simp [go_sem],k5.drew.cell b0,sr.2.2.2.2.2.2.2.2.2.2.2.2.2.2.2.2.2.trans k5.drew⟩
       clear k5 sr a0 a1 a2 b0
       refine wp_region_held_drew (S:=(fun w'=>cb12 w' (w.heap.size) (.slice At nt ct) (.slice Ak nk ck) (.int .i64 a) (.int .i64 b) (.int .i64 c) (.int .i64 d) (.int .i64 e) (.int .i64 W) (.int .i64 H) (x) (r) (y) (cb3 w' (w.heap.size+1) (.int .i64 T) (.int .i64 Z) (u) (cb2 w' (w.heap.size+1+1) (.int .i64 sd) (.slice (some ⟨g,off,none⟩) n co) (cb3 w' (wr.heap.size) (.int .i64 ux) (.slice Ao np cx) (.int .i64 ax) (w'.cell? ⟨g,off+q'*3,none⟩=some (.int .i64 bf)∧Kp w w')))))) (by kernel_rfl) ?_ (fun hHeld=>?_)
       ·exact s1
       refine tk 0 ⟨some 19,_,_,_,_,_⟩ ?_ rfl (by kernel_rfl) (fun _ _ _ h=>h) (by rfl) ?_ (by assumption) ?_
       rotate_left
       ·intro w hSw;(try dsimp only at hSw);go_simp;(all_goals with_reducible rfl)
       simp only [Act.put,sA,sB,sC]
       refine tk 1 ⟨some 20,_,_,_,_,_⟩ ?_ rfl (by kernel_rfl) (fun _ _ _ h=>h) (by rfl) ?_ (by assumption) ?_
       rotate_left
       ·intro w hSw;(try dsimp only at hSw);go_simp;(all_goals with_reducible rfl)
       simp only [Act.put,sA,sB,sC]
       refine tk 2 ⟨some 21,_,_,_,_,_⟩ ?_ rfl (by kernel_rfl) (fun _ _ _ h=>h) (by rfl) ?_ (by assumption) ?_
       rotate_left
       ·intro w hSw;(try dsimp only at hSw);go_simp;(all_goals with_reducible rfl)
       simp only [Act.put,sA,sB,sC]
       refine tk 3 ⟨some 22,_,_,_,_,_⟩ ?_ rfl (by kernel_rfl) (fun _ _ _ h=>h) (by rfl) ?_ (by assumption) ?_
       rotate_left
       ·intro w hSw;(try dsimp only at hSw);go_simp;(all_goals with_reducible rfl)
       simp only [Act.put,sA,sB,sC]
       refine tk 4 ⟨some 23,_,_,_,_,_⟩ ?_ rfl (by kernel_rfl) (fun _ _ _ h=>h) (by rfl) ?_ (by assumption) ?_
       rotate_left
       ·intro w hSw;(try dsimp only at hSw);go_simp;(all_goals with_reducible rfl)
       simp only [Act.put,sA,sB,sC]
       refine wpAnyH_ready (rs:=[5]) (by kernel_rfl) (by simp) ?_
       refine AllReadyH.cons (o:=⟨some 24,_,_,_,_,_⟩) rfl (fun K hK=>?_) AllReadyH.nil
       go_simp
       refine(CP.out _ (HS.out.keep hHeld.2.2.2.2.2.2.2.2.2.2.2.2.2.2.2.2.2.2.2.2.2)).mono ?_;rintro e1 w1 ⟨rfl,k1⟩;have s2:=keeph21 k1 hHeld
       go_wp2_with fail
       refine hK.out _ _ ?_ (fun hHeld=>?_)
       ·(try dsimp only);(first | assumption | exact s2 | exact s1)
       clear hK K
       try simp only [Act.put,sA,sB,sC]
       refine tk 6 ⟨some 25,_,_,_,_,_⟩ ?_ rfl (by kernel_rfl) (fun _ _ _ h=>h) (by rfl) ?_ (by assumption) ?_
       rotate_left
       ·intro w hSw;(try dsimp only at hSw);go_simp;(all_goals with_reducible rfl)
       simp only [Act.put,sA,sB,sC]
       refine tk 7 ⟨some 26,_,_,_,_,_⟩ ?_ rfl (by kernel_rfl) (fun _ _ _ h=>h) (by rfl) ?_ (by assumption) ?_
       rotate_left
       ·intro w hSw;(try dsimp only at hSw);go_simp;(all_goals with_reducible rfl)
       simp only [Act.put,sA,sB,sC]
       refine tk 8 ⟨some 27,_,_,_,_,_⟩ ?_ rfl (by kernel_rfl) (fun _ _ _ h=>h) (by rfl) ?_ (by assumption) ?_
       rotate_left
       ·intro w hSw;(try dsimp only at hSw);go_simp;(all_goals with_reducible rfl)
       simp only [Act.put,sA,sB,sC]
       refine tk 9 ⟨some 28,_,_,_,_,_⟩ ?_ rfl (by kernel_rfl) (fun _ _ _ h=>h) (by rfl) ?_ (by assumption) ?_
       rotate_left
       ·intro w hSw;(try dsimp only at hSw);go_simp;(all_goals with_reducible rfl)
       simp only [Act.put,sA,sB,sC]
       refine tk 10 ⟨some 29,_,_,_,_,_⟩ ?_ rfl (by kernel_rfl) (fun _ _ _ h=>h) (by rfl) ?_ (by assumption) ?_
       rotate_left
       ·intro w hSw;(try dsimp only at hSw);go_simp;(all_goals with_reducible rfl)
       simp only [Act.put,sA,sB,sC]
       refine tk 11 ⟨some 30,_,_,_,_,_⟩ ?_ rfl (by kernel_rfl) (fun _ _ _ h=>h) (by rfl) ?_ (by assumption) ?_
       rotate_left
       ·intro w hSw;(try dsimp only at hSw);go_simp;(all_goals with_reducible rfl)
       simp only [Act.put,sA,sB,sC]
       refine tk 12 ⟨some 31,_,_,_,_,_⟩ ?_ rfl (by kernel_rfl) (fun _ _ _ h=>h) (by rfl) ?_ (by assumption) ?_
       rotate_left
       ·intro w hSw;(try dsimp only at hSw);go_simp;(all_goals with_reducible rfl)
       simp only [Act.put,sA,sB,sC]
       refine tk 13 ⟨some 32,_,_,_,_,_⟩ ?_ rfl (by kernel_rfl) (fun _ _ _ h=>h) (by rfl) ?_ (by assumption) ?_
       rotate_left
       ·intro w hSw;(try dsimp only at hSw);go_simp;(all_goals with_reducible rfl)
       simp only [Act.put,sA,sB,sC]
       refine tk 14 ⟨some 33,_,_,_,_,_⟩ ?_ rfl (by kernel_rfl) (fun _ _ _ h=>h) (by rfl) ?_ (by assumption) ?_
       rotate_left
       ·intro w hSw;(try dsimp only at hSw);go_simp;(all_goals with_reducible rfl)
       simp only [Act.put,sA,sB,sC]
       refine tk 15 ⟨some 34,_,_,_,_,_⟩ ?_ rfl (by kernel_rfl) (fun _ _ _ h=>h) (by rfl) ?_ (by assumption) ?_
       rotate_left
       ·intro w hSw;(try dsimp only at hSw);go_simp;(all_goals with_reducible rfl)
       simp only [Act.put,sA,sB,sC]
       refine tk 16 ⟨some 35,_,_,_,_,_⟩ ?_ rfl (by kernel_rfl) (fun _ _ _ h=>h) (by rfl) ?_ (by assumption) ?_
       rotate_left
       ·intro w hSw;(try dsimp only at hSw);go_simp;(all_goals with_reducible rfl)
       simp only [Act.put,sA,sB,sC]
       refine tk 17 ⟨some 36,_,_,_,_,_⟩ ?_ rfl (by kernel_rfl) (fun _ _ _ h=>h) (by rfl) ?_ (by assumption) ?_
       rotate_left
       ·intro w hSw;(try dsimp only at hSw);go_simp;(all_goals with_reducible rfl)
       simp only [Act.put,sA,sB,sC]
       refine tk 18 ⟨some 37,_,_,_,_,_⟩ ?_ rfl (by kernel_rfl) (fun _ _ _ h=>h) (by rfl) ?_ (by assumption) ?_
       rotate_left
       ·intro w hSw;(try dsimp only at hSw);go_simp;(all_goals with_reducible rfl)
       simp only [Act.put,sA,sB,sC]
       refine tk 19 ⟨some 38,_,_,_,_,_⟩ ?_ rfl (by kernel_rfl) (fun _ _ _ h=>h) (by rfl) ?_ (by assumption) ?_
       rotate_left
       ·intro w hSw;(try dsimp only at hSw);go_simp;(all_goals with_reducible rfl)
       simp only [Act.put,sA,sB,sC]
       refine tk 20 ⟨some 39,_,_,_,_,_⟩ ?_ rfl (by kernel_rfl) (fun _ _ _ h=>h) (by rfl) ?_ (by assumption) ?_
       rotate_left
       ·intro w hSw;(try dsimp only at hSw);go_simp;(all_goals with_reducible rfl)
       simp only [Act.put,sA,sB,sC]
       refine tk 21 ⟨some 40,_,_,_,_,_⟩ ?_ rfl (by kernel_rfl) (fun _ _ _ h=>h) (by rfl) ?_ (by assumption) ?_
       rotate_left
       ·intro w hSw;(try dsimp only at hSw);go_simp;(all_goals with_reducible rfl)
       simp only [Act.put,sA,sB,sC]
       refine wpAnyH_done (by kernel_rfl) ?_ _
       go_wp2_with fail
       refine(CQ.out _ (HB.out.keep hHeld.2.2.2.2.2.2.2.2.2.2.2.2.2.2.2.2.2.2.2.2.2) (HS.out.keep hHeld.2.2.2.2.2.2.2.2.2.2.2.2.2.2.2.2.2.2.2.2.2) (RA.out.keep hHeld.2.2.2.2.2.2.2.2.2.2.2.2.2.2.2.2.2.2.2.2.2)).mono ?_
       rintro e6 w6 ⟨rfl,k6⟩
       have s6:=keeph21 k6 hHeld
       clear k6 hHeld
       go_wp2_with fail
       rw [HST.out]
       go_ret2
       exact⟨rfl,s6.2.2.2.2.2.2.2.2.2.2.2.2.2.2.2.2.2.2.2.2.2⟩
  ·obtain rfl:q=n:=by omega
   have HST:Hid (R=(q,0)):=Lib.hid (by
    have h:=HF.out
    rw [HLN.out,fstO_end] at h
    rw [← h,HLN.out])
   go_wp2_with fail
   rw [HST.out]
   go_ret2
   exact⟨rfl,sr.2.2.2.2.2.2.2.2.2.2.2.2.2.2.2.2.2⟩
set_option maxRecDepth 100000 in
set_option maxHeartbeats 4000000 in
theorem oGood_any (At Ak:Option Addr) (nt nk ct ck:Nat) (l:List Ter) (m:List Knd) (a b c d e W H:Int) (x r y:Value) (lt lr ld:List Int) (T Z:Int) (u:Value) (us:List Uni) (sd:Int) (v:Value) (xs:List Odr) (w:World) (hB:BrdAt w At Ak nt nk l m x r y lt lr ld) (hS:StaAt w u us) (hx:SheAt w v xs) (hsm:smO xs) :
  Calls Tryz.prog 83 #[bv (.slice At nt ct) (.slice Ak nk ck) a b c d e W H x r y,sv T Z u,hv sd v] w fun e' w'=>e'=.returned (.bool ((brdOk ⟨l,m,a,b,c,d,e⟩ W H lt lr ld && staOk ⟨l,m,a,b,c,d,e⟩ W H lt T Z us) && shtB (ordG l m lt lr ld W H b c Z us sd) sd xs))∧Kp w w':=by
 obtain⟨A,co,rfl,hr⟩:=hx
 have HB:=Lib.hid hB
 have HS:=Lib.hid hS
 have HR:=Lib.hid hr
 have C0:=Lib.hid (fun (w:World) hB hS=>sGood_any At Ak nt nk ct ck l m a b c d e W H x r y lt lr ld T Z u us w hB hS)
 have CL:=Lib.hid (fun (w:World)=>oForm_any sd A xs.length co w)
 have CF:Hid ((brdOk ⟨l,m,a,b,c,d,e⟩ W H lt lr ld && staOk ⟨l,m,a,b,c,d,e⟩ W H lt T Z us)=true→∀ w,BrdAt w At Ak nt nk l m x r y lt lr ld→StaAt w u us→RdO w A xs.length xs→Calls Tryz.prog 77 #[bv (.slice At nt ct) (.slice Ak nk ck) a b c d e W H x r y,sv T Z u,hv sd (.slice A xs.length co)] w fun e' w'=>e'=.returned (.tuple #[.int .i64 ((fstO (ordG l m lt lr ld W H b c Z us sd) (-1) 0 xs).1:Int),.int .i64 (fstO (ordG l m lt lr ld W H b c Z us sd) (-1) 0 xs).2])∧Kp w w'):=Lib.hid fun h w hB hS hx=>by
  simp only [Bool.and_eq_true] at h
  exact oFirst_any At Ak nt nk ct ck l m a b c d e W H x r y lt lr ld T Z u us sd A co xs w hB hS h.1 h.2 hx hsm
 unfold shtB
 generalize fstO (ordG l m lt lr ld W H b c Z us sd) (-1) 0 xs=RR at CF ⊢
 obtain⟨ri,rc⟩:=RR
 simp only at CF ⊢
 generalize xs.length=n at *
 have KA:Kp w (((w.alloc (.cells #[.slice At nt ct,.slice Ak nk ck,.int .i64 a,.int .i64 b,.int .i64 c,.int .i64 d,.int .i64 e,.int .i64 W,.int .i64 H,x,r,y] 47)).alloc (.cells #[.int .i64 T,.int .i64 Z,u] 51)).alloc (.cells #[.int .i64 sd,.slice A n co] 67)):=((((Kp.refl w).alloc _).alloc _).alloc _)
 have s0:cb12 (((w.alloc (.cells #[.slice At nt ct,.slice Ak nk ck,.int .i64 a,.int .i64 b,.int .i64 c,.int .i64 d,.int .i64 e,.int .i64 W,.int .i64 H,x,r,y] 47)).alloc (.cells #[.int .i64 T,.int .i64 Z,u] 51)).alloc (.cells #[.int .i64 sd,.slice A n co] 67)) (w.heap.size) (.slice At nt ct) (.slice Ak nk ck) (.int .i64 a) (.int .i64 b) (.int .i64 c) (.int .i64 d) (.int .i64 e) (.int .i64 W) (.int .i64 H) (x) (r) (y) (cb3 (((w.alloc (.cells #[.slice At nt ct,.slice Ak nk ck,.int .i64 a,.int .i64 b,.int .i64 c,.int .i64 d,.int .i64 e,.int .i64 W,.int .i64 H,x,r,y] 47)).alloc (.cells #[.int .i64 T,.int .i64 Z,u] 51)).alloc (.cells #[.int .i64 sd,.slice A n co] 67)) (w.heap.size+1) (.int .i64 T) (.int .i64 Z) (u) (cb2 (((w.alloc (.cells #[.slice At nt ct,.slice Ak nk ck,.int .i64 a,.int .i64 b,.int .i64 c,.int .i64 d,.int .i64 e,.int .i64 W,.int .i64 H,x,r,y] 47)).alloc (.cells #[.int .i64 T,.int .i64 Z,u] 51)).alloc (.cells #[.int .i64 sd,.slice A n co] 67)) (w.heap.size+1+1) (.int .i64 sd) (.slice A n co) (Kp w (((w.alloc (.cells #[.slice At nt ct,.slice Ak nk ck,.int .i64 a,.int .i64 b,.int .i64 c,.int .i64 d,.int .i64 e,.int .i64 W,.int .i64 H,x,r,y] 47)).alloc (.cells #[.int .i64 T,.int .i64 Z,u] 51)).alloc (.cells #[.int .i64 sd,.slice A n co] 67))))):=⟨by simp [go_sem],by simp [go_sem],by simp [go_sem],by simp [go_sem],by simp [go_sem],by simp [go_sem],by simp [go_sem],by simp [go_sem],by simp [go_sem],by simp [go_sem],by simp [go_sem],by simp [go_sem],by simp [go_sem],by simp [go_sem],by simp [go_sem],by simp [go_sem],by simp [go_sem],KA⟩
 clear hB hS hr hsm KA
 cases hg:brdOk ⟨l,m,a,b,c,d,e⟩ W H lt lr ld && staOk ⟨l,m,a,b,c,d,e⟩ W H lt T Z us
 ·rw [hg] at C0
  rw [Bool.false_and]
  clear hg CF CL
  go_enter Tryz.func83,Tryz.ntmps83
  go_wp2_with fail
  refine(C0.out _ (HB.out.keep s0.2.2.2.2.2.2.2.2.2.2.2.2.2.2.2.2.2) (HS.out.keep s0.2.2.2.2.2.2.2.2.2.2.2.2.2.2.2.2.2)).mono ?_
  rintro e1 w1 ⟨rfl,k1⟩
  have s1:=keeph17 k1 s0
  clear s0 k1
  go_wp2_with fail
  go_ret
  exact⟨rfl,s1.2.2.2.2.2.2.2.2.2.2.2.2.2.2.2.2.2⟩
 ·rw [hg] at C0
  rw [Bool.true_and]
  have CF:=Lib.hid (CF.out hg)
  clear hg
  cases hl:(spB 0 1 sd && spB 0 12 (n:Int))
  ·rw [hl] at CL
   rw [Bool.false_and]
   clear hl CF
   go_enter Tryz.func83,Tryz.ntmps83
   go_wp2_with fail
   refine(C0.out _ (HB.out.keep s0.2.2.2.2.2.2.2.2.2.2.2.2.2.2.2.2.2) (HS.out.keep s0.2.2.2.2.2.2.2.2.2.2.2.2.2.2.2.2.2)).mono ?_
   rintro e1 w1 ⟨rfl,k1⟩
   have s1:=keeph17 k1 s0
   clear s0 k1
   go_wp2_with fail
   refine(CL.out _).mono ?_
   rintro e2 w2 ⟨rfl,k2⟩
   have s2:=keeph17 k2 s1
   clear s1 k2
   go_wp2_with fail
   go_ret
   exact⟨rfl,s2.2.2.2.2.2.2.2.2.2.2.2.2.2.2.2.2.2⟩
  ·rw [hl] at CL
   rw [Bool.true_and]
   clear hl
   go_enter Tryz.func83,Tryz.ntmps83
   go_wp2_with fail
   refine(C0.out _ (HB.out.keep s0.2.2.2.2.2.2.2.2.2.2.2.2.2.2.2.2.2) (HS.out.keep s0.2.2.2.2.2.2.2.2.2.2.2.2.2.2.2.2.2)).mono ?_
   rintro e1 w1 ⟨rfl,k1⟩
   have s1:=keeph17 k1 s0
   clear s0 k1
   go_wp2_with fail
   refine(CL.out _).mono ?_
   rintro e2 w2 ⟨rfl,k2⟩
   have s2:=keeph17 k2 s1
   clear s1 k2
   go_wp2_with fail
   refine(CF.out _ (HB.out.keep s2.2.2.2.2.2.2.2.2.2.2.2.2.2.2.2.2.2) (HS.out.keep s2.2.2.2.2.2.2.2.2.2.2.2.2.2.2.2.2.2) (HR.out.keep s2.2.2.2.2.2.2.2.2.2.2.2.2.2.2.2.2.2)).mono ?_
   rintro e3 w3 ⟨rfl,k3⟩
   go_wp2_with fail
   go_ret
   exact⟨ret_bool (by simp [Bool.beq_eq_decide_eq]),s2.2.2.2.2.2.2.2.2.2.2.2.2.2.2.2.2.2.trans k3⟩
set_option maxRecDepth 100000 in
set_option maxHeartbeats 4000000 in
theorem specIsSheet_any (At Ak:Option Addr) (nt nk ct ck:Nat) (l:List Ter) (m:List Knd) (a b c d e W H:Int) (x r y:Value) (lt lr ld:List Int) (T Z:Int) (u:Value) (us:List Uni) (sd:Int) (v:Value) (xs:List Odr) (w:World) (hB:BrdAt w At Ak nt nk l m x r y lt lr ld) (hS:StaAt w u us) (hx:SheAt w v xs) (hsm:smO xs) :
  Calls Tryz.prog 30 #[bv (.slice At nt ct) (.slice Ak nk ck) a b c d e W H x r y,sv T Z u,hv sd v] w fun e' w'=>e'=.returned (.tuple #[.bool ((brdOk ⟨l,m,a,b,c,d,e⟩ W H lt lr ld && staOk ⟨l,m,a,b,c,d,e⟩ W H lt T Z us) && shtB (ordG l m lt lr ld W H b c Z us sd) sd xs),.bool (brdOk ⟨l,m,a,b,c,d,e⟩ W H lt lr ld && staOk ⟨l,m,a,b,c,d,e⟩ W H lt T Z us)])∧Kp w w':=by
 have KA:Kp w (((w.alloc (.cells #[.slice At nt ct,.slice Ak nk ck,.int .i64 a,.int .i64 b,.int .i64 c,.int .i64 d,.int .i64 e,.int .i64 W,.int .i64 H,x,r,y] 47)).alloc (.cells #[.int .i64 T,.int .i64 Z,u] 51)).alloc (.cells #[.int .i64 sd,v] 67)):=((((Kp.refl w).alloc _).alloc _).alloc _)
 have s0:cb12 (((w.alloc (.cells #[.slice At nt ct,.slice Ak nk ck,.int .i64 a,.int .i64 b,.int .i64 c,.int .i64 d,.int .i64 e,.int .i64 W,.int .i64 H,x,r,y] 47)).alloc (.cells #[.int .i64 T,.int .i64 Z,u] 51)).alloc (.cells #[.int .i64 sd,v] 67)) (w.heap.size) (.slice At nt ct) (.slice Ak nk ck) (.int .i64 a) (.int .i64 b) (.int .i64 c) (.int .i64 d) (.int .i64 e) (.int .i64 W) (.int .i64 H) (x) (r) (y) (cb3 (((w.alloc (.cells #[.slice At nt ct,.slice Ak nk ck,.int .i64 a,.int .i64 b,.int .i64 c,.int .i64 d,.int .i64 e,.int .i64 W,.int .i64 H,x,r,y] 47)).alloc (.cells #[.int .i64 T,.int .i64 Z,u] 51)).alloc (.cells #[.int .i64 sd,v] 67)) (w.heap.size+1) (.int .i64 T) (.int .i64 Z) (u) (cb2 (((w.alloc (.cells #[.slice At nt ct,.slice Ak nk ck,.int .i64 a,.int .i64 b,.int .i64 c,.int .i64 d,.int .i64 e,.int .i64 W,.int .i64 H,x,r,y] 47)).alloc (.cells #[.int .i64 T,.int .i64 Z,u] 51)).alloc (.cells #[.int .i64 sd,v] 67)) (w.heap.size+1+1) (.int .i64 sd) (v) (Kp w (((w.alloc (.cells #[.slice At nt ct,.slice Ak nk ck,.int .i64 a,.int .i64 b,.int .i64 c,.int .i64 d,.int .i64 e,.int .i64 W,.int .i64 H,x,r,y] 47)).alloc (.cells #[.int .i64 T,.int .i64 Z,u] 51)).alloc (.cells #[.int .i64 sd,v] 67))))):=⟨by simp [go_sem],by simp [go_sem],by simp [go_sem],by simp [go_sem],by simp [go_sem],by simp [go_sem],by simp [go_sem],by simp [go_sem],by simp [go_sem],by simp [go_sem],by simp [go_sem],by simp [go_sem],by simp [go_sem],by simp [go_sem],by simp [go_sem],by simp [go_sem],by simp [go_sem],KA⟩
 have HB:=Lib.hid hB
 have HS:=Lib.hid hS
 have HX:=Lib.hid hx
 have C0:=Lib.hid (fun (w:World) hB hS=>sGood_any At Ak nt nk ct ck l m a b c d e W H x r y lt lr ld T Z u us w hB hS)
 have CG:=Lib.hid (fun (w:World) hB hS hx=>oGood_any At Ak nt nk ct ck l m a b c d e W H x r y lt lr ld T Z u us sd v xs w hB hS hx hsm)
 clear hB hS hx KA
 cases hg:brdOk ⟨l,m,a,b,c,d,e⟩ W H lt lr ld && staOk ⟨l,m,a,b,c,d,e⟩ W H lt T Z us
 ·rw [hg] at C0
  rw [Bool.false_and]
  clear hg CG
  go_enter Tryz.func30,Tryz.ntmps30
  go_wp2_with fail
  refine(C0.out _ (HB.out.keep s0.2.2.2.2.2.2.2.2.2.2.2.2.2.2.2.2.2) (HS.out.keep s0.2.2.2.2.2.2.2.2.2.2.2.2.2.2.2.2.2)).mono ?_
  rintro e1 w1 ⟨rfl,k1⟩
  have s1:=keeph17 k1 s0
  clear s0 k1
  go_wp2_with fail
  go_ret2
  exact⟨rfl,s1.2.2.2.2.2.2.2.2.2.2.2.2.2.2.2.2.2⟩
 ·rw [hg] at C0 CG
  generalize (true && shtB (ordG l m lt lr ld W H b c Z us sd) sd xs)=Q at CG ⊢
  clear hg
  go_enter Tryz.func30,Tryz.ntmps30
  go_wp2_with fail
  refine(C0.out _ (HB.out.keep s0.2.2.2.2.2.2.2.2.2.2.2.2.2.2.2.2.2) (HS.out.keep s0.2.2.2.2.2.2.2.2.2.2.2.2.2.2.2.2.2)).mono ?_
  rintro e1 w1 ⟨rfl,k1⟩
  have s1:=keeph17 k1 s0
  clear s0 k1
  go_wp2_with fail
  refine(CG.out _ (HB.out.keep s1.2.2.2.2.2.2.2.2.2.2.2.2.2.2.2.2.2) (HS.out.keep s1.2.2.2.2.2.2.2.2.2.2.2.2.2.2.2.2.2) (HX.out.keep s1.2.2.2.2.2.2.2.2.2.2.2.2.2.2.2.2.2)).mono ?_
  rintro e2 w2 ⟨rfl,k2⟩
  go_wp2_with fail
  go_ret2
  exact⟨rfl,s1.2.2.2.2.2.2.2.2.2.2.2.2.2.2.2.2.2.trans k2⟩
end Go.Proofs.YtacgknllagdkoaaGreatDoor
