/-
 The program's walk along a path: where it leads and what it costs. Nothing that was there is changed. The table of directions holds what the program's text lays.
-/
import Derived.Test.YtacgknllagdkoaaGreatDoorCsP
import Derived.Test.YtacgknllagdkoaaGreatDoorCsF
import Derived.Test.YtacgknllagdkoaaGreatDoorOrM
import Derived.Test.YtacgknllagdkoaaGreatDoorZnZ
import Derived.Test.YtacgknllagdkoaaGreatDoorSuN
import Derived.Test.YtacgknllagdkoaaGreatDoorMid
import Derived.StillTailTactics
import Derived.Deep.Cut
import Derived.Maps.AppendAt
import Derived.Test.YtacgknllagdkoaaGreatDoorQa
import Derived.Test.YtacgknllagdkoaaGreatDoorQp
import Derived.Test.YtacgknllagdkoaaGreatDoorQa
namespace Go.Proofs.YtacgknllagdkoaaGreatDoor
open Go.RowKit
theorem vI_neO (z:Int):vI (decide (z ≠ 0)) z=z:=by
 unfold vI
 by_cases h:z=0
 ·subst h;rfl
 ·rw [decide_eq_true h];rfl
theorem range16 {W:World} {b:Nat} {v0 v1 v2 v3 v4 v5 v6 v7 v8 v9 v10 v11 v12 v13 v14 v15:Value}  (h0:W.cell? ⟨b,0,none⟩=some v0) (h1:W.cell? ⟨b,1,none⟩=some v1) (h2:W.cell? ⟨b,2,none⟩=some v2) (h3:W.cell? ⟨b,3,none⟩=some v3) (h4:W.cell? ⟨b,4,none⟩=some v4) (h5:W.cell? ⟨b,5,none⟩=some v5) (h6:W.cell? ⟨b,6,none⟩=some v6) (h7:W.cell? ⟨b,7,none⟩=some v7) (h8:W.cell? ⟨b,8,none⟩=some v8) (h9:W.cell? ⟨b,9,none⟩=some v9) (h10:W.cell? ⟨b,10,none⟩=some v10) (h11:W.cell? ⟨b,11,none⟩=some v11) (h12:W.cell? ⟨b,12,none⟩=some v12) (h13:W.cell? ⟨b,13,none⟩=some v13) (h14:W.cell? ⟨b,14,none⟩=some v14) (h15:W.cell? ⟨b,15,none⟩=some v15):W.rangeAt b 0 [v0,v1,v2,v3,v4,v5,v6,v7,v8,v9,v10,v11,v12,v13,v14,v15]:=fun j v hv=>by
 rw [Nat.zero_add]
 match j,hv with
 | 0,hv=>simp only [List.getElem?_cons_zero,Option.some.injEq] at hv;subst hv;exact h0
 | 1,hv=>simp only [List.getElem?_cons_succ,List.getElem?_cons_zero,Option.some.injEq] at hv;subst hv;exact h1
 | 2,hv=>simp only [List.getElem?_cons_succ,List.getElem?_cons_zero,Option.some.injEq] at hv;subst hv;exact h2
 | 3,hv=>simp only [List.getElem?_cons_succ,List.getElem?_cons_zero,Option.some.injEq] at hv;subst hv;exact h3
 | 4,hv=>simp only [List.getElem?_cons_succ,List.getElem?_cons_zero,Option.some.injEq] at hv;subst hv;exact h4
 | 5,hv=>simp only [List.getElem?_cons_succ,List.getElem?_cons_zero,Option.some.injEq] at hv;subst hv;exact h5
 | 6,hv=>simp only [List.getElem?_cons_succ,List.getElem?_cons_zero,Option.some.injEq] at hv;subst hv;exact h6
 | 7,hv=>simp only [List.getElem?_cons_succ,List.getElem?_cons_zero,Option.some.injEq] at hv;subst hv;exact h7
 | 8,hv=>simp only [List.getElem?_cons_succ,List.getElem?_cons_zero,Option.some.injEq] at hv;subst hv;exact h8
 | 9,hv=>simp only [List.getElem?_cons_succ,List.getElem?_cons_zero,Option.some.injEq] at hv;subst hv;exact h9
 | 10,hv=>simp only [List.getElem?_cons_succ,List.getElem?_cons_zero,Option.some.injEq] at hv;subst hv;exact h10
 | 11,hv=>simp only [List.getElem?_cons_succ,List.getElem?_cons_zero,Option.some.injEq] at hv;subst hv;exact h11
 | 12,hv=>simp only [List.getElem?_cons_succ,List.getElem?_cons_zero,Option.some.injEq] at hv;subst hv;exact h12
 | 13,hv=>simp only [List.getElem?_cons_succ,List.getElem?_cons_zero,Option.some.injEq] at hv;subst hv;exact h13
 | 14,hv=>simp only [List.getElem?_cons_succ,List.getElem?_cons_zero,Option.some.injEq] at hv;subst hv;exact h14
 | 15,hv=>simp only [List.getElem?_cons_succ,List.getElem?_cons_zero,Option.some.injEq] at hv;subst hv;exact h15
 | n+16,hv=>simp at hv
theorem infoCmd:(Tryz.prog.info? 111).map (·.size)=some 16:=by kernel_rfl
set_option maxRecDepth 100000 in
set_option maxHeartbeats 4000000 in
theorem walk_any (At Ak:Option Addr) (nt nk ct ck:Nat) (l:List Ter) (m:List Knd) (a b c d e W H:Int) (x r y:Value) (lt lr ld:List Int) (k:Nat) (tw i:Int) (v:Value) (p:List Int) (w:World) (ht:Tab w) (hB:BrdAt w At Ak nt nk l m x r y lt lr ld) (hok:brdOk ⟨l,m,a,b,c,d,e⟩ W H lt lr ld=true) (hk:k<m.length) (hw:tw=0∨tw=1∨tw=2) (hp:RdI w v p) (hl:p.length≤9) :
  Calls Tryz.prog 190 #[.agg #[.slice At nt ct,.slice Ak nk ck,.int .i64 a,.int .i64 b,.int .i64 c,.int .i64 d,.int .i64 e,.int .i64 W,.int .i64 H,x,r,y,.int .i64 (k:Int),.int .i64 tw],.int .i64 i,v] w fun e' w'=>e'=.returned (sfR (wlkB (stp l lt lr ld W H b c k tw) W i p) (endP W i p) (sumL (cstP (stp l lt lr ld W H b c k tw) W i p)))∧Kp w w':=by
 have KA:Kp w (w.alloc (.cells #[.slice At nt ct,.slice Ak nk ck,.int .i64 a,.int .i64 b,.int .i64 c,.int .i64 d,.int .i64 e,.int .i64 W,.int .i64 H,x,r,y,.int .i64 (k:Int),.int .i64 tw] 240)):=(Kp.refl w).alloc _
 have s0:cb14 (w.alloc (.cells #[.slice At nt ct,.slice Ak nk ck,.int .i64 a,.int .i64 b,.int .i64 c,.int .i64 d,.int .i64 e,.int .i64 W,.int .i64 H,x,r,y,.int .i64 (k:Int),.int .i64 tw] 240)) (w.heap.size) (.slice At nt ct) (.slice Ak nk ck) (.int .i64 a) (.int .i64 b) (.int .i64 c) (.int .i64 d) (.int .i64 e) (.int .i64 W) (.int .i64 H) (x) (r) (y) (.int .i64 (k:Int)) (.int .i64 tw) (Kp w (w.alloc (.cells #[.slice At nt ct,.slice Ak nk ck,.int .i64 a,.int .i64 b,.int .i64 c,.int .i64 d,.int .i64 e,.int .i64 W,.int .i64 H,x,r,y,.int .i64 (k:Int),.int .i64 tw] 240))):=⟨by simp [go_sem],by simp [go_sem],by simp [go_sem],by simp [go_sem],by simp [go_sem],by simp [go_sem],by simp [go_sem],by simp [go_sem],by simp [go_sem],by simp [go_sem],by simp [go_sem],by simp [go_sem],by simp [go_sem],by simp [go_sem],KA⟩
 have HB:=Lib.hid hB
 have HT:=Lib.hid ht
 have HBD:Hid (∀ i d,0≤stp l lt lr ld W H b c k tw i d∧stp l lt lr ld W H b c k tw i d≤20):=Lib.hid (stp_bd hok hk hw)
 obtain⟨F,hF⟩:∃ F:Int→Int→Int,F=stp l lt lr ld W H b c k tw:=⟨_,rfl⟩
 rw [← hF] at HBD ⊢
 have CS:Hid (∀ (i dd:Int) w,Tab w→BrdAt w At Ak nt nk l m x r y lt lr ld→Calls Tryz.prog 219 #[.agg #[.slice At nt ct,.slice Ak nk ck,.int .i64 a,.int .i64 b,.int .i64 c,.int .i64 d,.int .i64 e,.int .i64 W,.int .i64 H,x,r,y,.int .i64 (k:Int),.int .i64 tw],.int .i64 i,.int .i64 dd] w fun e' w'=>e'=.returned (.tuple #[.int .i64 (vI (decide (F i dd ≠ 0)) (nbI W i dd)),.int .i64 (F i dd),.bool (decide (F i dd ≠ 0))])∧Kp w w'):=Lib.hid fun i dd w ht hB=>by
  have h:=stepFrom_any At Ak nt nk ct ck l m a b c d e W H x r y lt lr ld k tw i dd w ht hB hok hk hw
  rw [← hF] at h
  unfold sfR at h
  rw [vI_neO] at h
  exact h
 obtain⟨A,cp,rfl,hc⟩:=hp
 have HC:=Lib.hid hc
 have HLN:=Lib.hid hl
 obtain⟨n,hn⟩:∃ n,n=p.length:=⟨_,rfl⟩
 have HN:=Lib.hid hn
 rw [← hn] at hl HC ⊢
 obtain⟨OK,hO⟩:∃ z,z=wlkB F W i p:=⟨_,rfl⟩
 obtain⟨E,hE⟩:∃ z,z=endP W i p:=⟨_,rfl⟩
 obtain⟨R,hR⟩:∃ z,z=sumL (cstP F W i p):=⟨_,rfl⟩
 rw [← hO,← hE,← hR]
 have HO:=Lib.hid hO
 have HE:=Lib.hid hE
 have HR:=Lib.hid hR
 clear hB ht hok hk hw hF hc hn hO hE hR
 go_enter Tryz.func190,Tryz.ntmps190
 go_wp2_with fail
 generalize (w.alloc (.cells #[.slice At nt ct,.slice Ak nk ck,.int .i64 a,.int .i64 b,.int .i64 c,.int .i64 d,.int .i64 e,.int .i64 W,.int .i64 H,x,r,y,.int .i64 (k:Int),.int .i64 tw] 240))=W0 at *
 go_loopw [1,9,11,12,13,14,17] (fun si ss _ _ _ _ sq wx=>∃ q:Nat,q≤n∧sq=.int .i64 q∧∃ I S:Int,si=.int .i64 I∧ss=.int .i64 S∧Hid (I=endP W i (p.take q))∧Hid (S=sumL (cstP F W i (p.take q)))∧Hid ((cstP F W i (p.take q)).length=q)∧(0≤S∧S≤20*q)∧Kp W0 wx) (fun _ _ _ _ _ _ sq _=>n - (intOf sq).toNat)
 case atStart=>exact⟨0,by omega,rfl,i,0,rfl,rfl,Lib.hid (by simp [endP]),Lib.hid (by simp [cstP,sumL]),Lib.hid (by simp [cstP]),by omega,Kp.refl _⟩
 case round =>
  obtain⟨q,hqn,rfl,I,S,rfl,rfl,HI,HS,HQ,hSb,kr⟩:=hrel
  have sr:=keepm14 kr s0
  by_cases hlt:q<n
  ·have hlt':(q:Int)<n:=by omega
   obtain⟨g,off,rfl,hc⟩:=HC.out (by omega)
   obtain⟨z,hz⟩:∃ z,p[q]?=some z:=⟨p[q]'(by have:=HN.out;omega),List.getElem?_eq_getElem _⟩
   have a0:=sr.2.2.2.2.2.2.2.2.2.2.2.2.2.2.cell (hc q z hz)
   have HZ:=Lib.hid hz
   have CQ:=Lib.hid (CS.out I z)
   have hbz:=HBD.out I z
   have HEZ:Hid (endP W i (p.take (q+1))=nbI W I z):=Lib.hid (by rw [endP_next hz,HI.out])
   by_cases hx:F I z=0
   ·have HST:Hid (OK=false):=Lib.hid (by rw [HO.out];exact wlk_stop hz (by rw [← HI.out];exact hx))
    rw [hx] at CQ
    clear hc hz hx HEZ hbz
    go_wp2_with fail
    refine(CQ.out _ (HT.out.keep sr.2.2.2.2.2.2.2.2.2.2.2.2.2.2) (HB.out.keep sr.2.2.2.2.2.2.2.2.2.2.2.2.2.2)).mono ?_
    rintro e3 w3 ⟨rfl,k3⟩
    go_wp2_with fail
    rw [HST.out]
    refine bodyPost_ret (v:=sfR false 0 0) (by simp [results,Tryz.results190,go_sem,vI]) rfl ⟨rfl,sr.2.2.2.2.2.2.2.2.2.2.2.2.2.2.trans k3⟩
   ·obtain⟨hy1,hy2⟩:=cstP_next (i:=i) HQ.out hz (by rw [← HI.out];exact hx)
    rw [← HI.out] at hy1
    have HY1:Hid (S+F I z=sumL (cstP F W i (p.take (q+1)))):=Lib.hid (by rw [hy1,sumL_app,sumL_one,← HS.out])
    have HY2:=Lib.hid hy2
    have hd:decide (F I z ≠ 0)=true:=decide_eq_true hx
    rw [hd] at CQ
    generalize F I z=X at CQ HY1 hbz
    generalize nbI W I z=J at CQ HEZ
    have hq9:q<9:=by have:=HLN.out;have:=HN.out;omega
    have hSq:S+X≤20*((q:Int)+1):=by omega
    clear hc hz hx hy1 hy2 hd
    go_wp2_with fail
    refine(CQ.out _ (HT.out.keep sr.2.2.2.2.2.2.2.2.2.2.2.2.2.2) (HB.out.keep sr.2.2.2.2.2.2.2.2.2.2.2.2.2.2)).mono ?_
    rintro e3 w3 ⟨rfl,k3⟩
    have k30:=kr.trans k3
    clear sr k3 kr a0
    go_wp2_with fail
    refine(sumTwo_any S X _ (by omega) (by omega)).mono ?_
    rintro e4 w4 ⟨rfl,rfl⟩
    go_wp2_with fail
    go_roundw
    case rel=>exact⟨q+1,by omega,by go_num,J,S+X,rfl,rfl,Lib.hid HEZ.out.symm,HY1,HY2,by omega,k30.alloc _⟩
    case measure=>simp [intOf];omega
  ·obtain rfl:q=n:=by omega
   have HT1:Hid (OK=true):=Lib.hid (by rw [HO.out];have:=HQ.out;rw [HN.out,List.take_length] at this;exact wlk_len this)
   have HT2:Hid (E=I):=Lib.hid (by rw [HE.out,HI.out,HN.out,List.take_length])
   have HT3:Hid (R=S):=Lib.hid (by rw [HR.out,HS.out,HN.out,List.take_length])
   go_wp2_with fail
   rw [HT1.out,HT2.out,HT3.out]
   refine bodyPost_ret (v:=sfR true I S) (by simp [results,Tryz.results190,go_sem,vI]) rfl ⟨rfl,sr.2.2.2.2.2.2.2.2.2.2.2.2.2.2⟩
theorem keepo20 {W0 w w1:World} {p0 p1 p2 p3 p4 p5 p6 p7 p8 p9 p10 p11 p12 p13 p14 p15 p16 p17 p18 p19:Addr} {v0 v1 v2 v3 v4 v5 v6 v7 v8 v9 v10 v11 v12 v13 v14 v15 v16 v17 v18 v19:Value} (k:Kp w w1) (h:w.cell? p0=some v0∧w.cell? p1=some v1∧w.cell? p2=some v2∧w.cell? p3=some v3∧w.cell? p4=some v4∧w.cell? p5=some v5∧w.cell? p6=some v6∧w.cell? p7=some v7∧w.cell? p8=some v8∧w.cell? p9=some v9∧w.cell? p10=some v10∧w.cell? p11=some v11∧w.cell? p12=some v12∧w.cell? p13=some v13∧w.cell? p14=some v14∧w.cell? p15=some v15∧w.cell? p16=some v16∧w.cell? p17=some v17∧w.cell? p18=some v18∧w.cell? p19=some v19∧Kp W0 w):w1.cell? p0=some v0∧w1.cell? p1=some v1∧w1.cell? p2=some v2∧w1.cell? p3=some v3∧w1.cell? p4=some v4∧w1.cell? p5=some v5∧w1.cell? p6=some v6∧w1.cell? p7=some v7∧w1.cell? p8=some v8∧w1.cell? p9=some v9∧w1.cell? p10=some v10∧w1.cell? p11=some v11∧w1.cell? p12=some v12∧w1.cell? p13=some v13∧w1.cell? p14=some v14∧w1.cell? p15=some v15∧w1.cell? p16=some v16∧w1.cell? p17=some v17∧w1.cell? p18=some v18∧w1.cell? p19=some v19∧Kp W0 w1 :=
 ⟨k.cell h.1,k.cell h.2.1,k.cell h.2.2.1,k.cell h.2.2.2.1,k.cell h.2.2.2.2.1,k.cell h.2.2.2.2.2.1,k.cell h.2.2.2.2.2.2.1,k.cell h.2.2.2.2.2.2.2.1,k.cell h.2.2.2.2.2.2.2.2.1,k.cell h.2.2.2.2.2.2.2.2.2.1,k.cell h.2.2.2.2.2.2.2.2.2.2.1,k.cell h.2.2.2.2.2.2.2.2.2.2.2.1,k.cell h.2.2.2.2.2.2.2.2.2.2.2.2.1,k.cell h.2.2.2.2.2.2.2.2.2.2.2.2.2.1,k.cell h.2.2.2.2.2.2.2.2.2.2.2.2.2.2.1,k.cell h.2.2.2.2.2.2.2.2.2.2.2.2.2.2.2.1,k.cell h.2.2.2.2.2.2.2.2.2.2.2.2.2.2.2.2.1,k.cell h.2.2.2.2.2.2.2.2.2.2.2.2.2.2.2.2.2.1,k.cell h.2.2.2.2.2.2.2.2.2.2.2.2.2.2.2.2.2.2.1,k.cell h.2.2.2.2.2.2.2.2.2.2.2.2.2.2.2.2.2.2.2.1,h.2.2.2.2.2.2.2.2.2.2.2.2.2.2.2.2.2.2.2.2.trans k⟩
theorem drewo20 {W0 w:World} {p0 p1 p2 p3 p4 p5 p6 p7 p8 p9 p10 p11 p12 p13 p14 p15 p16 p17 p18 p19:Addr} {v0 v1 v2 v3 v4 v5 v6 v7 v8 v9 v10 v11 v12 v13 v14 v15 v16 v17 v18 v19:Value} (h:w.cell? p0=some v0∧w.cell? p1=some v1∧w.cell? p2=some v2∧w.cell? p3=some v3∧w.cell? p4=some v4∧w.cell? p5=some v5∧w.cell? p6=some v6∧w.cell? p7=some v7∧w.cell? p8=some v8∧w.cell? p9=some v9∧w.cell? p10=some v10∧w.cell? p11=some v11∧w.cell? p12=some v12∧w.cell? p13=some v13∧w.cell? p14=some v14∧w.cell? p15=some v15∧w.cell? p16=some v16∧w.cell? p17=some v17∧w.cell? p18=some v18∧w.cell? p19=some v19∧Kp W0 w):w.drew.cell? p0=some v0∧w.drew.cell? p1=some v1∧w.drew.cell? p2=some v2∧w.drew.cell? p3=some v3∧w.drew.cell? p4=some v4∧w.drew.cell? p5=some v5∧w.drew.cell? p6=some v6∧w.drew.cell? p7=some v7∧w.drew.cell? p8=some v8∧w.drew.cell? p9=some v9∧w.drew.cell? p10=some v10∧w.drew.cell? p11=some v11∧w.drew.cell? p12=some v12∧w.drew.cell? p13=some v13∧w.drew.cell? p14=some v14∧w.drew.cell? p15=some v15∧w.drew.cell? p16=some v16∧w.drew.cell? p17=some v17∧w.drew.cell? p18=some v18∧w.drew.cell? p19=some v19∧Kp W0 w.drew :=
 ⟨h.1,h.2.1,h.2.2.1,h.2.2.2.1,h.2.2.2.2.1,h.2.2.2.2.2.1,h.2.2.2.2.2.2.1,h.2.2.2.2.2.2.2.1,h.2.2.2.2.2.2.2.2.1,h.2.2.2.2.2.2.2.2.2.1,h.2.2.2.2.2.2.2.2.2.2.1,h.2.2.2.2.2.2.2.2.2.2.2.1,h.2.2.2.2.2.2.2.2.2.2.2.2.1,h.2.2.2.2.2.2.2.2.2.2.2.2.2.1,h.2.2.2.2.2.2.2.2.2.2.2.2.2.2.1,h.2.2.2.2.2.2.2.2.2.2.2.2.2.2.2.1,h.2.2.2.2.2.2.2.2.2.2.2.2.2.2.2.2.1,h.2.2.2.2.2.2.2.2.2.2.2.2.2.2.2.2.2.1,h.2.2.2.2.2.2.2.2.2.2.2.2.2.2.2.2.2.2.1,h.2.2.2.2.2.2.2.2.2.2.2.2.2.2.2.2.2.2.2.1,h.2.2.2.2.2.2.2.2.2.2.2.2.2.2.2.2.2.2.2.2.drew⟩
set_option maxRecDepth 100000 in
set_option maxHeartbeats 4000000 in
theorem march_any (At Ak:Option Addr) (nt nk ct ck:Nat) (l:List Ter) (m:List Knd) (a b c d e W H:Int) (x r y:Value) (lt lr ld:List Int) (T Z:Int) (u:Value) (_us:List Uni) (sd:Int) (k:Nat) (sx ax tx:Int) (v:Value) (p:List Int) (w:World) (ht:Tab w) (hB:BrdAt w At Ak nt nk l m x r y lt lr ld) (hok:brdOk ⟨l,m,a,b,c,d,e⟩ W H lt lr ld=true) (hk:k<m.length) (hw:Z=0∨Z=1∨Z=2) (hp:RdI w v p) (hl:p.length≤1048576) :
  Calls Tryz.prog 138 #[.agg #[.slice At nt ct,.slice Ak nk ck,.int .i64 a,.int .i64 b,.int .i64 c,.int .i64 d,.int .i64 e,.int .i64 W,.int .i64 H,x,r,y,.int .i64 T,.int .i64 Z,u,.int .i64 sd],.agg #[.int .i64 sx,.int .i64 (k:Int),.int .i64 ax,.int .i64 tx],v] w fun e' w'=>e'=.returned (sfR (goB (stp l lt lr ld W H b c k Z) W ax p) (endP W ax p) (sumL (cstP (stp l lt lr ld W H b c k Z) W ax p)))∧Kp w w':=by
 have KA:Kp w ((w.alloc (.cells #[.slice At nt ct,.slice Ak nk ck,.int .i64 a,.int .i64 b,.int .i64 c,.int .i64 d,.int .i64 e,.int .i64 W,.int .i64 H,x,r,y,.int .i64 T,.int .i64 Z,u,.int .i64 sd] 111)).alloc (.cells #[.int .i64 sx,.int .i64 (k:Int),.int .i64 ax,.int .i64 tx] 152)):=(((Kp.refl w).alloc _).alloc _)
 have s0:cb16 ((w.alloc (.cells #[.slice At nt ct,.slice Ak nk ck,.int .i64 a,.int .i64 b,.int .i64 c,.int .i64 d,.int .i64 e,.int .i64 W,.int .i64 H,x,r,y,.int .i64 T,.int .i64 Z,u,.int .i64 sd] 111)).alloc (.cells #[.int .i64 sx,.int .i64 (k:Int),.int .i64 ax,.int .i64 tx] 152)) (w.heap.size) (.slice At nt ct) (.slice Ak nk ck) (.int .i64 a) (.int .i64 b) (.int .i64 c) (.int .i64 d) (.int .i64 e) (.int .i64 W) (.int .i64 H) (x) (r) (y) (.int .i64 T) (.int .i64 Z) (u) (.int .i64 sd) (cb4 ((w.alloc (.cells #[.slice At nt ct,.slice Ak nk ck,.int .i64 a,.int .i64 b,.int .i64 c,.int .i64 d,.int .i64 e,.int .i64 W,.int .i64 H,x,r,y,.int .i64 T,.int .i64 Z,u,.int .i64 sd] 111)).alloc (.cells #[.int .i64 sx,.int .i64 (k:Int),.int .i64 ax,.int .i64 tx] 152)) (w.heap.size+1) (.int .i64 sx) (.int .i64 (k:Int)) (.int .i64 ax) (.int .i64 tx) (Kp w ((w.alloc (.cells #[.slice At nt ct,.slice Ak nk ck,.int .i64 a,.int .i64 b,.int .i64 c,.int .i64 d,.int .i64 e,.int .i64 W,.int .i64 H,x,r,y,.int .i64 T,.int .i64 Z,u,.int .i64 sd] 111)).alloc (.cells #[.int .i64 sx,.int .i64 (k:Int),.int .i64 ax,.int .i64 tx] 152)))):=⟨by simp [go_sem],by simp [go_sem],by simp [go_sem],by simp [go_sem],by simp [go_sem],by simp [go_sem],by simp [go_sem],by simp [go_sem],by simp [go_sem],by simp [go_sem],by simp [go_sem],by simp [go_sem],by simp [go_sem],by simp [go_sem],by simp [go_sem],by simp [go_sem],by simp [go_sem],by simp [go_sem],by simp [go_sem],by simp [go_sem],KA⟩
 have HB:=Lib.hid hB
 have HT:=Lib.hid ht
 have HP:=Lib.hid hp
 have CP:=Lib.hid (fun (w:World) (h:RdI w v p)=>isPath_any v p w h hl)
 have CW:Hid (pthB p=true→∀ w,Tab w→BrdAt w At Ak nt nk l m x r y lt lr ld→RdI w v p→Calls Tryz.prog 190 #[.agg #[.slice At nt ct,.slice Ak nk ck,.int .i64 a,.int .i64 b,.int .i64 c,.int .i64 d,.int .i64 e,.int .i64 W,.int .i64 H,x,r,y,.int .i64 (k:Int),.int .i64 Z],.int .i64 ax,v] w fun e' w'=>e'=.returned (sfR (wlkB (stp l lt lr ld W H b c k Z) W ax p) (endP W ax p) (sumL (cstP (stp l lt lr ld W H b c k Z) W ax p)))∧Kp w w'):=Lib.hid fun h w ht hB hp=>walk_any At Ak nt nk ct ck l m a b c d e W H x r y lt lr ld k Z ax v p w ht hB hok hk hw hp (pth_dir h).1
 unfold goB
 clear hB ht hok hk hw hp hl
 generalize wlkB (stp l lt lr ld W H b c k Z) W ax p=OK at CW ⊢
 generalize sumL (cstP (stp l lt lr ld W H b c k Z) W ax p)=R at CW ⊢
 generalize endP W ax p=E at CW ⊢
 cases hg:pthB p
 ·rw [hg] at CP
  rw [Bool.false_and]
  clear hg CW
  go_enter Tryz.func138,Tryz.ntmps138
  go_wp2_with fail
  refine(CP.out _ (HP.out.keep KA)).mono ?_
  rintro e1 w1 ⟨rfl,k1⟩
  go_wp2_with fail
  refine bodyPost_ret (v:=sfR false 0 0) (by simp [results,Tryz.results138,go_sem,vI]) rfl ⟨rfl,KA.trans k1⟩
 ·rw [hg] at CP
  rw [Bool.true_and]
  have CW2:=Lib.hid (CW.out hg)
  unfold sfR at CW2 ⊢
  generalize vI OK E=E1 at CW2 ⊢
  generalize vI OK R=R1 at CW2 ⊢
  clear hg CW
  go_enter Tryz.func138,Tryz.ntmps138
  go_wp2_with fail
  refine(CP.out _ (HP.out.keep KA)).mono ?_
  rintro e1 w1 ⟨rfl,k1⟩
  have s1:=keepo20 k1 s0
  clear s0 k1
  go_wp2_with fail
  refine(CW2.out _ (HT.out.keep s1.2.2.2.2.2.2.2.2.2.2.2.2.2.2.2.2.2.2.2.2) (HB.out.keep s1.2.2.2.2.2.2.2.2.2.2.2.2.2.2.2.2.2.2.2.2) (HP.out.keep s1.2.2.2.2.2.2.2.2.2.2.2.2.2.2.2.2.2.2.2.2)).mono ?_
  rintro e2 w2 ⟨rfl,k2⟩
  go_wp2_with fail
  refine bodyPost_ret (v:=.tuple #[.int .i64 E1,.int .i64 R1,.bool OK]) (by simp [results,Tryz.results138,go_sem]) rfl ⟨rfl,s1.2.2.2.2.2.2.2.2.2.2.2.2.2.2.2.2.2.2.2.2.trans k2⟩
theorem keepc16 {W0 w w1:World} {p0 p1 p2 p3 p4 p5 p6 p7 p8 p9 p10 p11 p12 p13 p14 p15:Addr} {v0 v1 v2 v3 v4 v5 v6 v7 v8 v9 v10 v11 v12 v13 v14 v15:Value} (k:Kp w w1) (h:w.cell? p0=some v0∧w.cell? p1=some v1∧w.cell? p2=some v2∧w.cell? p3=some v3∧w.cell? p4=some v4∧w.cell? p5=some v5∧w.cell? p6=some v6∧w.cell? p7=some v7∧w.cell? p8=some v8∧w.cell? p9=some v9∧w.cell? p10=some v10∧w.cell? p11=some v11∧w.cell? p12=some v12∧w.cell? p13=some v13∧w.cell? p14=some v14∧w.cell? p15=some v15∧Kp W0 w):w1.cell? p0=some v0∧w1.cell? p1=some v1∧w1.cell? p2=some v2∧w1.cell? p3=some v3∧w1.cell? p4=some v4∧w1.cell? p5=some v5∧w1.cell? p6=some v6∧w1.cell? p7=some v7∧w1.cell? p8=some v8∧w1.cell? p9=some v9∧w1.cell? p10=some v10∧w1.cell? p11=some v11∧w1.cell? p12=some v12∧w1.cell? p13=some v13∧w1.cell? p14=some v14∧w1.cell? p15=some v15∧Kp W0 w1 :=
 ⟨k.cell h.1,k.cell h.2.1,k.cell h.2.2.1,k.cell h.2.2.2.1,k.cell h.2.2.2.2.1,k.cell h.2.2.2.2.2.1,k.cell h.2.2.2.2.2.2.1,k.cell h.2.2.2.2.2.2.2.1,k.cell h.2.2.2.2.2.2.2.2.1,k.cell h.2.2.2.2.2.2.2.2.2.1,k.cell h.2.2.2.2.2.2.2.2.2.2.1,k.cell h.2.2.2.2.2.2.2.2.2.2.2.1,k.cell h.2.2.2.2.2.2.2.2.2.2.2.2.1,k.cell h.2.2.2.2.2.2.2.2.2.2.2.2.2.1,k.cell h.2.2.2.2.2.2.2.2.2.2.2.2.2.2.1,k.cell h.2.2.2.2.2.2.2.2.2.2.2.2.2.2.2.1,h.2.2.2.2.2.2.2.2.2.2.2.2.2.2.2.2.trans k⟩
theorem drewc16 {W0 w:World} {p0 p1 p2 p3 p4 p5 p6 p7 p8 p9 p10 p11 p12 p13 p14 p15:Addr} {v0 v1 v2 v3 v4 v5 v6 v7 v8 v9 v10 v11 v12 v13 v14 v15:Value} (h:w.cell? p0=some v0∧w.cell? p1=some v1∧w.cell? p2=some v2∧w.cell? p3=some v3∧w.cell? p4=some v4∧w.cell? p5=some v5∧w.cell? p6=some v6∧w.cell? p7=some v7∧w.cell? p8=some v8∧w.cell? p9=some v9∧w.cell? p10=some v10∧w.cell? p11=some v11∧w.cell? p12=some v12∧w.cell? p13=some v13∧w.cell? p14=some v14∧w.cell? p15=some v15∧Kp W0 w):w.drew.cell? p0=some v0∧w.drew.cell? p1=some v1∧w.drew.cell? p2=some v2∧w.drew.cell? p3=some v3∧w.drew.cell? p4=some v4∧w.drew.cell? p5=some v5∧w.drew.cell? p6=some v6∧w.drew.cell? p7=some v7∧w.drew.cell? p8=some v8∧w.drew.cell? p9=some v9∧w.drew.cell? p10=some v10∧w.drew.cell? p11=some v11∧w.drew.cell? p12=some v12∧w.drew.cell? p13=some v13∧w.drew.cell? p14=some v14∧w.drew.cell? p15=some v15∧Kp W0 w.drew :=
 ⟨h.1,h.2.1,h.2.2.1,h.2.2.2.1,h.2.2.2.2.1,h.2.2.2.2.2.1,h.2.2.2.2.2.2.1,h.2.2.2.2.2.2.2.1,h.2.2.2.2.2.2.2.2.1,h.2.2.2.2.2.2.2.2.2.1,h.2.2.2.2.2.2.2.2.2.2.1,h.2.2.2.2.2.2.2.2.2.2.2.1,h.2.2.2.2.2.2.2.2.2.2.2.2.1,h.2.2.2.2.2.2.2.2.2.2.2.2.2.1,h.2.2.2.2.2.2.2.2.2.2.2.2.2.2.1,h.2.2.2.2.2.2.2.2.2.2.2.2.2.2.2.1,h.2.2.2.2.2.2.2.2.2.2.2.2.2.2.2.2.drew⟩
set_option maxRecDepth 100000 in
set_option maxHeartbeats 4000000 in
theorem commands_any (At Ak:Option Addr) (nt nk ct ck:Nat) (_l:List Ter) (_m:List Knd) (a b c d e W H:Int) (x r y:Value) (_lt _lr _ld:List Int) (T Z:Int) (u:Value) (us:List Uni) (sd un:Int) (w:World) (hS:StaAt w u us) :
  Calls Tryz.prog 137 #[.agg #[.slice At nt ct,.slice Ak nk ck,.int .i64 a,.int .i64 b,.int .i64 c,.int .i64 d,.int .i64 e,.int .i64 W,.int .i64 H,x,r,y,.int .i64 T,.int .i64 Z,u,.int .i64 sd],.int .i64 un] w fun e' w'=>e'=.returned (.bool (plcB us sd un))∧Kp w w':=by
 have HS:=Lib.hid hS
 have CU:=Lib.hid (fun (w:World) hS=>isUnitNumber_any T Z u us un w hS)
 cases hg:inB un us.length
 ·rw [hg] at CU
  have HE:Hid (plcB us sd un=false):=Lib.hid (by unfold plcB;rw [hg];rfl)
  rw [HE.out]
  have KA:Kp w (w.alloc (.cells #[.slice At nt ct,.slice Ak nk ck,.int .i64 a,.int .i64 b,.int .i64 c,.int .i64 d,.int .i64 e,.int .i64 W,.int .i64 H,x,r,y,.int .i64 T,.int .i64 Z,u,.int .i64 sd] 111)):=((Kp.refl w).alloc _)
  have s0:cb16 (w.alloc (.cells #[.slice At nt ct,.slice Ak nk ck,.int .i64 a,.int .i64 b,.int .i64 c,.int .i64 d,.int .i64 e,.int .i64 W,.int .i64 H,x,r,y,.int .i64 T,.int .i64 Z,u,.int .i64 sd] 111)) (w.heap.size) (.slice At nt ct) (.slice Ak nk ck) (.int .i64 a) (.int .i64 b) (.int .i64 c) (.int .i64 d) (.int .i64 e) (.int .i64 W) (.int .i64 H) (x) (r) (y) (.int .i64 T) (.int .i64 Z) (u) (.int .i64 sd) (Kp w (w.alloc (.cells #[.slice At nt ct,.slice Ak nk ck,.int .i64 a,.int .i64 b,.int .i64 c,.int .i64 d,.int .i64 e,.int .i64 W,.int .i64 H,x,r,y,.int .i64 T,.int .i64 Z,u,.int .i64 sd] 111))):=⟨by simp [go_sem],by simp [go_sem],by simp [go_sem],by simp [go_sem],by simp [go_sem],by simp [go_sem],by simp [go_sem],by simp [go_sem],by simp [go_sem],by simp [go_sem],by simp [go_sem],by simp [go_sem],by simp [go_sem],by simp [go_sem],by simp [go_sem],by simp [go_sem],KA⟩
  clear hS hg
  go_enter Tryz.func137,Tryz.ntmps137
  go_upto_region 1 with (fail)
  have s1:=drewc16 s0
  clear s0
  refine wp_region_held_drew (S:=(fun w'=>cb16 w' (w.heap.size) (.slice At nt ct) (.slice Ak nk ck) (.int .i64 a) (.int .i64 b) (.int .i64 c) (.int .i64 d) (.int .i64 e) (.int .i64 W) (.int .i64 H) (x) (r) (y) (.int .i64 T) (.int .i64 Z) (u) (.int .i64 sd) (Kp w w'))) (by kernel_rfl) ?_ (fun hHeld=>?_)
  ·exact s1
  refine tk 0 ⟨some 5,_,_,_,_,_⟩ ?_ rfl (by kernel_rfl) (fun _ _ _ h=>h) (by rfl) ?_ (by assumption) ?_
  rotate_left
  ·intro w hSw;(try dsimp only at hSw);go_simp;(all_goals with_reducible rfl)
  simp only [Act.put,sA,sB,sC]
  refine tk 1 ⟨some 6,_,_,_,_,_⟩ ?_ rfl (by kernel_rfl) (fun _ _ _ h=>h) (by rfl) ?_ (by assumption) ?_
  rotate_left
  ·intro w hSw;(try dsimp only at hSw);go_simp;(all_goals with_reducible rfl)
  simp only [Act.put,sA,sB,sC]
  refine tk 2 ⟨some 7,_,_,_,_,_⟩ ?_ rfl (by kernel_rfl) (fun _ _ _ h=>h) (by rfl) ?_ (by assumption) ?_
  rotate_left
  ·intro w hSw;(try dsimp only at hSw);go_simp;(all_goals with_reducible rfl)
  simp only [Act.put,sA,sB,sC]
  refine wpAnyH_ready (rs:=[3]) (by kernel_rfl) (by simp) ?_
  refine AllReadyH.cons (o:=⟨some 8,_,_,_,_,_⟩) rfl (fun K hK=>?_) AllReadyH.nil
  go_simp
  refine(CU.out _ (HS.out.keep hHeld.2.2.2.2.2.2.2.2.2.2.2.2.2.2.2.2)).mono ?_;rintro e1 w1 ⟨rfl,k1⟩;have s2:=keepc16 k1 hHeld
  go_wp2_with fail
  refine hK.out _ _ ?_ (fun hHeld=>?_)
  ·(try dsimp only);(first | assumption | exact s2 | exact s1)
  clear hK K
  try simp only [Act.put,sA,sB,sC]
  refine tk 4 ⟨some 9,_,_,_,_,_⟩ ?_ rfl (by kernel_rfl) (fun _ _ _ h=>h) (by rfl) ?_ (by assumption) ?_
  rotate_left
  ·intro w hSw;(try dsimp only at hSw);go_simp;(all_goals with_reducible rfl)
  simp only [Act.put,sA,sB,sC]
  refine tn 5 ⟨some 10,_,_,_,_,_⟩ rfl (by kernel_rfl) (fun _ _ _ h=>h) (by rfl) (by assumption) ?_
  simp only [Act.put,sA,sB,sC]
  refine tn 6 ⟨some 11,_,_,_,_,_⟩ rfl (by kernel_rfl) (fun _ _ _ h=>h) (by rfl) (by assumption) ?_
  simp only [Act.put,sA,sB,sC]
  refine tn 7 ⟨some 12,_,_,_,_,_⟩ rfl (by kernel_rfl) (fun _ _ _ h=>h) (by rfl) (by assumption) ?_
  simp only [Act.put,sA,sB,sC]
  refine tn 8 ⟨some 13,_,_,_,_,_⟩ rfl (by kernel_rfl) (fun _ _ _ h=>h) (by rfl) (by assumption) ?_
  simp only [Act.put,sA,sB,sC]
  refine tn 9 ⟨some 14,_,_,_,_,_⟩ rfl (by kernel_rfl) (fun _ _ _ h=>h) (by rfl) (by assumption) ?_
  simp only [Act.put,sA,sB,sC]
  refine tn 10 ⟨some 15,_,_,_,_,_⟩ rfl (by kernel_rfl) (fun _ _ _ h=>h) (by rfl) (by assumption) ?_
  simp only [Act.put,sA,sB,sC]
  refine tn 11 ⟨some 16,_,_,_,_,_⟩ rfl (by kernel_rfl) (fun _ _ _ h=>h) (by rfl) (by assumption) ?_
  simp only [Act.put,sA,sB,sC]
  refine tn 12 ⟨some 17,_,_,_,_,_⟩ rfl (by kernel_rfl) (fun _ _ _ h=>h) (by rfl) (by assumption) ?_
  simp only [Act.put,sA,sB,sC]
  refine tn 13 ⟨some 18,_,_,_,_,_⟩ rfl (by kernel_rfl) (fun _ _ _ h=>h) (by rfl) (by assumption) ?_
  simp only [Act.put,sA,sB,sC]
  refine tn 14 ⟨some 19,_,_,_,_,_⟩ rfl (by kernel_rfl) (fun _ _ _ h=>h) (by rfl) (by assumption) ?_
  simp only [Act.put,sA,sB,sC]
  refine tk 15 ⟨some 20,_,_,_,_,_⟩ ?_ rfl (by kernel_rfl) (fun _ _ _ h=>h) (by rfl) ?_ (by assumption) ?_
  rotate_left
  ·intro w hSw;(try dsimp only at hSw);go_simp;(all_goals with_reducible rfl)
  simp only [Act.put,sA,sB,sC]
  refine tk 16 ⟨some 21,_,_,_,_,_⟩ ?_ rfl (by kernel_rfl) (fun _ _ _ h=>h) (by rfl) ?_ (by assumption) ?_
  rotate_left
  ·intro w hSw;(try dsimp only at hSw);go_simp;(all_goals with_reducible rfl)
  simp only [Act.put,sA,sB,sC]
  refine tn 17 ⟨some 22,_,_,_,_,_⟩ rfl (by kernel_rfl) (fun _ _ _ h=>h) (by rfl) (by assumption) ?_
  simp only [Act.put,sA,sB,sC]
  refine tn 18 ⟨some 23,_,_,_,_,_⟩ rfl (by kernel_rfl) (fun _ _ _ h=>h) (by rfl) (by assumption) ?_
  simp only [Act.put,sA,sB,sC]
  refine tn 19 ⟨some 24,_,_,_,_,_⟩ rfl (by kernel_rfl) (fun _ _ _ h=>h) (by rfl) (by assumption) ?_
  simp only [Act.put,sA,sB,sC]
  refine tn 20 ⟨some 25,_,_,_,_,_⟩ rfl (by kernel_rfl) (fun _ _ _ h=>h) (by rfl) (by assumption) ?_
  simp only [Act.put,sA,sB,sC]
  refine tn 21 ⟨some 26,_,_,_,_,_⟩ rfl (by kernel_rfl) (fun _ _ _ h=>h) (by rfl) (by assumption) ?_
  simp only [Act.put,sA,sB,sC]
  refine tn 22 ⟨some 27,_,_,_,_,_⟩ rfl (by kernel_rfl) (fun _ _ _ h=>h) (by rfl) (by assumption) ?_
  simp only [Act.put,sA,sB,sC]
  refine wpAnyH_ready (rs:=[23]) (by kernel_rfl) (by simp) ?_
  refine AllReadyH.cons (o:=⟨some 28,_,_,_,_,_⟩) rfl (fun K hK=>?_) AllReadyH.nil
  go_simp
  refine hK.out _ _ ?_ (fun hHeld=>?_)
  ·(try dsimp only);(first | assumption | exact s2 | exact s1)
  clear hK K
  try simp only [Act.put,sA,sB,sC]
  refine tk 24 ⟨some 29,_,_,_,_,_⟩ ?_ rfl (by kernel_rfl) (fun _ _ _ h=>h) (by rfl) ?_ (by assumption) ?_
  rotate_left
  ·intro w hSw;(try dsimp only at hSw);go_simp;(all_goals with_reducible rfl)
  simp only [Act.put,sA,sB,sC]
  refine tk 25 ⟨some 4,_,_,_,_,_⟩ ?_ rfl (by kernel_rfl) (fun _ _ _ h=>h) (by rfl) ?_ (by assumption) ?_
  rotate_left
  ·intro w hSw;(try dsimp only at hSw);go_simp;(all_goals with_reducible rfl)
  simp only [Act.put,sA,sB,sC]
  refine wpAnyH_done (by kernel_rfl) ?_ _
  go_wp2_with fail
  go_ret
  exact⟨ret_bool (by simp),hHeld.2.2.2.2.2.2.2.2.2.2.2.2.2.2.2.2⟩
 ·rw [hg] at CU
  obtain⟨k,rfl,hk,hz⟩:=unN_of hg
  have HE:Hid (plcB us sd (k:Int)=(decide ((unN us (k:Int)).s=sd) && decide ((unN us (k:Int)).a ≠ -1))):=Lib.hid (by unfold plcB;rw [hg,Bool.true_and])
  rw [HE.out]
  obtain⟨A,cp,rfl,h⟩:=hS.rd
  obtain⟨gu,ou,rfl,hc⟩:=h (by omega)
  obtain⟨q0,q1,q2,q3⟩:=hc k _ hz
  generalize unN us (k:Int)=zz at q0 q1 q2 q3 hz ⊢
  obtain⟨sx,kx,ax,tx⟩:=zz
  simp only at q0 q1 q2 q3 ⊢
  obtain⟨N,hN⟩:∃ N,N=us.length:=⟨_,rfl⟩
  rw [← hN] at hk HS CU ⊢
  have hk':(k:Int)<N:=by omega
  have KA:Kp w (w.alloc (.cells #[.slice At nt ct,.slice Ak nk ck,.int .i64 a,.int .i64 b,.int .i64 c,.int .i64 d,.int .i64 e,.int .i64 W,.int .i64 H,x,r,y,.int .i64 T,.int .i64 Z,.slice (some ⟨gu,ou,none⟩) N cp,.int .i64 sd] 111)):=(Kp.refl w).alloc _
  have s0:cb16 (w.alloc (.cells #[.slice At nt ct,.slice Ak nk ck,.int .i64 a,.int .i64 b,.int .i64 c,.int .i64 d,.int .i64 e,.int .i64 W,.int .i64 H,x,r,y,.int .i64 T,.int .i64 Z,.slice (some ⟨gu,ou,none⟩) N cp,.int .i64 sd] 111)) (w.heap.size) (.slice At nt ct) (.slice Ak nk ck) (.int .i64 a) (.int .i64 b) (.int .i64 c) (.int .i64 d) (.int .i64 e) (.int .i64 W) (.int .i64 H) (x) (r) (y) (.int .i64 T) (.int .i64 Z) (.slice (some ⟨gu,ou,none⟩) N cp) (.int .i64 sd) ((w.alloc (.cells #[.slice At nt ct,.slice Ak nk ck,.int .i64 a,.int .i64 b,.int .i64 c,.int .i64 d,.int .i64 e,.int .i64 W,.int .i64 H,x,r,y,.int .i64 T,.int .i64 Z,.slice (some ⟨gu,ou,none⟩) N cp,.int .i64 sd] 111)).cell? ⟨gu,ou+k*4,none⟩=some (.int .i64 sx)∧(w.alloc (.cells #[.slice At nt ct,.slice Ak nk ck,.int .i64 a,.int .i64 b,.int .i64 c,.int .i64 d,.int .i64 e,.int .i64 W,.int .i64 H,x,r,y,.int .i64 T,.int .i64 Z,.slice (some ⟨gu,ou,none⟩) N cp,.int .i64 sd] 111)).cell? ⟨gu,ou+k*4+1,none⟩=some (.int .i64 kx)∧(w.alloc (.cells #[.slice At nt ct,.slice Ak nk ck,.int .i64 a,.int .i64 b,.int .i64 c,.int .i64 d,.int .i64 e,.int .i64 W,.int .i64 H,x,r,y,.int .i64 T,.int .i64 Z,.slice (some ⟨gu,ou,none⟩) N cp,.int .i64 sd] 111)).cell? ⟨gu,ou+k*4+2,none⟩=some (.int .i64 ax)∧(w.alloc (.cells #[.slice At nt ct,.slice Ak nk ck,.int .i64 a,.int .i64 b,.int .i64 c,.int .i64 d,.int .i64 e,.int .i64 W,.int .i64 H,x,r,y,.int .i64 T,.int .i64 Z,.slice (some ⟨gu,ou,none⟩) N cp,.int .i64 sd] 111)).cell? ⟨gu,ou+k*4+3,none⟩=some (.int .i64 tx)∧Kp w (w.alloc (.cells #[.slice At nt ct,.slice Ak nk ck,.int .i64 a,.int .i64 b,.int .i64 c,.int .i64 d,.int .i64 e,.int .i64 W,.int .i64 H,x,r,y,.int .i64 T,.int .i64 Z,.slice (some ⟨gu,ou,none⟩) N cp,.int .i64 sd] 111))):=⟨by simp [go_sem],by simp [go_sem],by simp [go_sem],by simp [go_sem],by simp [go_sem],by simp [go_sem],by simp [go_sem],by simp [go_sem],by simp [go_sem],by simp [go_sem],by simp [go_sem],by simp [go_sem],by simp [go_sem],by simp [go_sem],by simp [go_sem],by simp [go_sem],KA.cell q0,KA.cell q1,KA.cell q2,KA.cell q3,KA⟩
  clear hS hg h hc hz q0 q1 q2 q3 HE hN
  by_cases hsx:sx=sd
  ·have hd:(sx == sd)=true:=by simpa using hsx
   have HSX:=Lib.hid hsx
   clear hsx
   by_cases hax:ax=-1
   ·have CM:Hid (∀ w,Calls Tryz.prog 108 #[.agg #[.int .i64 sx,.int .i64 kx,.int .i64 ax,.int .i64 tx]] w fun e w'=>e=.returned (.bool false)∧Kp w w'):=Lib.hid fun w=>by rw [hax];exact onMap_no sx kx tx w
    have HAX:=Lib.hid hax
    clear hax
    go_enter Tryz.func137,Tryz.ntmps137
    go_upto_region 1 with (fail)
    have s1:=drewo20 s0
    clear s0
    refine wp_region_held_drew (S:=(fun w'=>cb16 w' (w.heap.size) (.slice At nt ct) (.slice Ak nk ck) (.int .i64 a) (.int .i64 b) (.int .i64 c) (.int .i64 d) (.int .i64 e) (.int .i64 W) (.int .i64 H) (x) (r) (y) (.int .i64 T) (.int .i64 Z) (.slice (some ⟨gu,ou,none⟩) N cp) (.int .i64 sd) (w'.cell? ⟨gu,ou+k*4,none⟩=some (.int .i64 sx)∧w'.cell? ⟨gu,ou+k*4+1,none⟩=some (.int .i64 kx)∧w'.cell? ⟨gu,ou+k*4+2,none⟩=some (.int .i64 ax)∧w'.cell? ⟨gu,ou+k*4+3,none⟩=some (.int .i64 tx)∧Kp w w'))) (by kernel_rfl) ?_ (fun hHeld=>?_)
    ·exact s1
    refine tk 0 ⟨some 5,_,_,_,_,_⟩ ?_ rfl (by kernel_rfl) (fun _ _ _ h=>h) (by rfl) ?_ (by assumption) ?_
    rotate_left
    ·intro w hSw;(try dsimp only at hSw);go_simp;(all_goals with_reducible rfl)
    simp only [Act.put,sA,sB,sC]
    refine tk 1 ⟨some 6,_,_,_,_,_⟩ ?_ rfl (by kernel_rfl) (fun _ _ _ h=>h) (by rfl) ?_ (by assumption) ?_
    rotate_left
    ·intro w hSw;(try dsimp only at hSw);go_simp;(all_goals with_reducible rfl)
    simp only [Act.put,sA,sB,sC]
    refine tk 2 ⟨some 7,_,_,_,_,_⟩ ?_ rfl (by kernel_rfl) (fun _ _ _ h=>h) (by rfl) ?_ (by assumption) ?_
    rotate_left
    ·intro w hSw;(try dsimp only at hSw);go_simp;(all_goals with_reducible rfl)
    simp only [Act.put,sA,sB,sC]
    refine wpAnyH_ready (rs:=[3]) (by kernel_rfl) (by simp) ?_
    refine AllReadyH.cons (o:=⟨some 8,_,_,_,_,_⟩) rfl (fun K hK=>?_) AllReadyH.nil
    go_simp
    refine(CU.out _ (HS.out.keep hHeld.2.2.2.2.2.2.2.2.2.2.2.2.2.2.2.2.2.2.2.2)).mono ?_;rintro e1 w1 ⟨rfl,k1⟩;have s2:=keepo20 k1 hHeld
    go_wp2_with fail
    refine hK.out _ _ ?_ (fun hHeld=>?_)
    ·(try dsimp only);(first | assumption | exact s3 | exact s2 | exact s1)
    clear hK K
    try simp only [Act.put,sA,sB,sC]
    refine tk 4 ⟨some 9,_,_,_,_,_⟩ ?_ rfl (by kernel_rfl) (fun _ _ _ h=>h) (by rfl) ?_ (by assumption) ?_
    rotate_left
    ·intro w hSw;(try dsimp only at hSw);go_simp;(all_goals with_reducible rfl)
    simp only [Act.put,sA,sB,sC]
    refine tk 5 ⟨some 10,_,_,_,_,_⟩ ?_ rfl (by kernel_rfl) (fun _ _ _ h=>h) (by rfl) ?_ (by assumption) ?_
    rotate_left
    ·intro w hSw;(try dsimp only at hSw);go_simp;(all_goals with_reducible rfl)
    simp only [Act.put,sA,sB,sC]
    refine tk 6 ⟨some 11,_,_,_,_,_⟩ ?_ rfl (by kernel_rfl) (fun _ _ _ h=>h) (by rfl) ?_ (by assumption) ?_
    rotate_left
    ·intro w hSw;(try dsimp only at hSw);go_simp;(all_goals with_reducible rfl)
    simp only [Act.put,sA,sB,sC]
    refine tk 7 ⟨some 12,_,_,_,_,_⟩ ?_ rfl (by kernel_rfl) (fun _ _ _ h=>h) (by rfl) ?_ (by assumption) ?_
    rotate_left
    ·intro w hSw;(try dsimp only at hSw);go_simp;(all_goals with_reducible rfl)
    simp only [Act.put,sA,sB,sC]
    refine tk 8 ⟨some 13,_,_,_,_,_⟩ ?_ rfl (by kernel_rfl) (fun _ _ _ h=>h) (by rfl) ?_ (by assumption) ?_
    rotate_left
    ·intro w hSw;(try dsimp only at hSw);go_simp;(all_goals with_reducible rfl)
    simp only [Act.put,sA,sB,sC]
    refine tk 9 ⟨some 14,_,_,_,_,_⟩ ?_ rfl (by kernel_rfl) (fun _ _ _ h=>h) (by rfl) ?_ (by assumption) ?_
    rotate_left
    ·intro w hSw;(try dsimp only at hSw);go_simp;(all_goals with_reducible rfl)
    simp only [Act.put,sA,sB,sC]
    refine tk 10 ⟨some 15,_,_,_,_,_⟩ ?_ rfl (by kernel_rfl) (fun _ _ _ h=>h) (by rfl) ?_ (by assumption) ?_
    rotate_left
    ·intro w hSw;(try dsimp only at hSw);go_simp;(all_goals with_reducible rfl)
    simp only [Act.put,sA,sB,sC]
    refine tk 11 ⟨some 16,_,_,_,_,_⟩ ?_ rfl (by kernel_rfl) (fun _ _ _ h=>h) (by rfl) ?_ (by assumption) ?_
    rotate_left
    ·intro w hSw;(try dsimp only at hSw);go_simp;(all_goals with_reducible rfl)
    simp only [Act.put,sA,sB,sC]
    refine tk 12 ⟨some 17,_,_,_,_,_⟩ ?_ rfl (by kernel_rfl) (fun _ _ _ h=>h) (by rfl) ?_ (by assumption) ?_
    rotate_left
    ·intro w hSw;(try dsimp only at hSw);go_simp;(all_goals with_reducible rfl)
    simp only [Act.put,sA,sB,sC]
    refine tk 13 ⟨some 18,_,_,_,_,_⟩ ?_ rfl (by kernel_rfl) (fun _ _ _ h=>h) (by rfl) ?_ (by assumption) ?_
    rotate_left
    ·intro w hSw;(try dsimp only at hSw);go_simp;(all_goals with_reducible rfl)
    simp only [Act.put,sA,sB,sC]
    refine tk 14 ⟨some 19,_,_,_,_,_⟩ ?_ rfl (by kernel_rfl) (fun _ _ _ h=>h) (by rfl) ?_ (by assumption) ?_
    rotate_left
    ·intro w hSw;(try dsimp only at hSw);go_simp;(all_goals with_reducible rfl)
    simp only [Act.put,sA,sB,sC]
    refine tk 15 ⟨some 20,_,_,_,_,_⟩ ?_ rfl (by kernel_rfl) (fun _ _ _ h=>h) (by rfl) ?_ (by assumption) ?_
    rotate_left
    ·intro w hSw;(try dsimp only at hSw);go_simp;(all_goals with_reducible rfl)
    simp only [Act.put,sA,sB,sC]
    refine tk 16 ⟨some 21,_,_,_,_,_⟩ ?_ rfl (by kernel_rfl) (fun _ _ _ h=>h) (by rfl) ?_ (by assumption) ?_
    rotate_left
    ·intro w hSw;(try dsimp only at hSw);go_simp;(all_goals with_reducible rfl)
    simp only [Act.put,sA,sB,sC]
    refine tk 17 ⟨some 22,_,_,_,_,_⟩ ?_ rfl (by kernel_rfl) (fun _ _ _ h=>h) (by rfl) ?_ (by assumption) ?_
    rotate_left
    ·intro w hSw;(try dsimp only at hSw);go_simp;(all_goals with_reducible rfl)
    simp only [Act.put,sA,sB,sC]
    refine tk 18 ⟨some 23,_,_,_,_,_⟩ ?_ rfl (by kernel_rfl) (fun _ _ _ h=>h) (by rfl) ?_ (by assumption) ?_
    rotate_left
    ·intro w hSw;(try dsimp only at hSw);go_simp;(all_goals with_reducible rfl)
    simp only [Act.put,sA,sB,sC]
    refine tk 19 ⟨some 24,_,_,_,_,_⟩ ?_ rfl (by kernel_rfl) (fun _ _ _ h=>h) (by rfl) ?_ (by assumption) ?_
    rotate_left
    ·intro w hSw;(try dsimp only at hSw);go_simp;(all_goals with_reducible rfl)
    simp only [Act.put,sA,sB,sC]
    refine tk 20 ⟨some 25,_,_,_,_,_⟩ ?_ rfl (by kernel_rfl) (fun _ _ _ h=>h) (by rfl) ?_ (by assumption) ?_
    rotate_left
    ·intro w hSw;(try dsimp only at hSw);go_simp;(all_goals with_reducible rfl)
    simp only [Act.put,sA,sB,sC]
    refine tk 21 ⟨some 26,_,_,_,_,_⟩ ?_ rfl (by kernel_rfl) (fun _ _ _ h=>h) (by rfl) ?_ (by assumption) ?_
    rotate_left
    ·intro w hSw;(try dsimp only at hSw);go_simp;(all_goals with_reducible rfl)
    simp only [Act.put,sA,sB,sC]
    refine tk 22 ⟨some 27,_,_,_,_,_⟩ ?_ rfl (by kernel_rfl) (fun _ _ _ h=>h) (by rfl) ?_ (by assumption) ?_
    rotate_left
    ·intro w hSw;(try dsimp only at hSw);go_simp;(all_goals with_reducible rfl)
    simp only [Act.put,sA,sB,sC]
    refine wpAnyH_ready (rs:=[23]) (by kernel_rfl) (by simp) ?_
    refine AllReadyH.cons (o:=⟨some 28,_,_,_,_,_⟩) rfl (fun K hK=>?_) AllReadyH.nil
    go_simp
    refine(CM.out _).mono ?_;rintro e2 w2 ⟨rfl,k2⟩;have s3:=keepo20 k2 hHeld
    go_wp2_with fail
    refine hK.out _ _ ?_ (fun hHeld=>?_)
    ·(try dsimp only);(first | assumption | exact s3 | exact s2 | exact s1)
    clear hK K
    try simp only [Act.put,sA,sB,sC]
    refine tk 24 ⟨some 29,_,_,_,_,_⟩ ?_ rfl (by kernel_rfl) (fun _ _ _ h=>h) (by rfl) ?_ (by assumption) ?_
    rotate_left
    ·intro w hSw;(try dsimp only at hSw);go_simp;(all_goals with_reducible rfl)
    simp only [Act.put,sA,sB,sC]
    refine tk 25 ⟨some 4,_,_,_,_,_⟩ ?_ rfl (by kernel_rfl) (fun _ _ _ h=>h) (by rfl) ?_ (by assumption) ?_
    rotate_left
    ·intro w hSw;(try dsimp only at hSw);go_simp;(all_goals with_reducible rfl)
    simp only [Act.put,sA,sB,sC]
    refine wpAnyH_done (by kernel_rfl) ?_ _
    go_wp2_with fail
    go_ret
    exact⟨ret_bool (by simp [HSX.out,HAX.out]),hHeld.2.2.2.2.2.2.2.2.2.2.2.2.2.2.2.2.2.2.2.2⟩
   ·have CM:Hid (∀ w,Calls Tryz.prog 108 #[.agg #[.int .i64 sx,.int .i64 kx,.int .i64 ax,.int .i64 tx]] w fun e w'=>e=.returned (.bool true)∧Kp w w'):=Lib.hid fun w=>onMap_yes sx kx ax tx w hax
    have HAX:=Lib.hid hax
    clear hax
    go_enter Tryz.func137,Tryz.ntmps137
    go_upto_region 1 with (fail)
    have s1:=drewo20 s0
    clear s0
    refine wp_region_held_drew (S:=(fun w'=>cb16 w' (w.heap.size) (.slice At nt ct) (.slice Ak nk ck) (.int .i64 a) (.int .i64 b) (.int .i64 c) (.int .i64 d) (.int .i64 e) (.int .i64 W) (.int .i64 H) (x) (r) (y) (.int .i64 T) (.int .i64 Z) (.slice (some ⟨gu,ou,none⟩) N cp) (.int .i64 sd) (w'.cell? ⟨gu,ou+k*4,none⟩=some (.int .i64 sx)∧w'.cell? ⟨gu,ou+k*4+1,none⟩=some (.int .i64 kx)∧w'.cell? ⟨gu,ou+k*4+2,none⟩=some (.int .i64 ax)∧w'.cell? ⟨gu,ou+k*4+3,none⟩=some (.int .i64 tx)∧Kp w w'))) (by kernel_rfl) ?_ (fun hHeld=>?_)
    ·exact s1
    refine tk 0 ⟨some 5,_,_,_,_,_⟩ ?_ rfl (by kernel_rfl) (fun _ _ _ h=>h) (by rfl) ?_ (by assumption) ?_
    rotate_left
    ·intro w hSw;(try dsimp only at hSw);go_simp;(all_goals with_reducible rfl)
    simp only [Act.put,sA,sB,sC]
    refine tk 1 ⟨some 6,_,_,_,_,_⟩ ?_ rfl (by kernel_rfl) (fun _ _ _ h=>h) (by rfl) ?_ (by assumption) ?_
    rotate_left
    ·intro w hSw;(try dsimp only at hSw);go_simp;(all_goals with_reducible rfl)
    simp only [Act.put,sA,sB,sC]
    refine tk 2 ⟨some 7,_,_,_,_,_⟩ ?_ rfl (by kernel_rfl) (fun _ _ _ h=>h) (by rfl) ?_ (by assumption) ?_
    rotate_left
    ·intro w hSw;(try dsimp only at hSw);go_simp;(all_goals with_reducible rfl)
    simp only [Act.put,sA,sB,sC]
    refine wpAnyH_ready (rs:=[3]) (by kernel_rfl) (by simp) ?_
    refine AllReadyH.cons (o:=⟨some 8,_,_,_,_,_⟩) rfl (fun K hK=>?_) AllReadyH.nil
    go_simp
    refine(CU.out _ (HS.out.keep hHeld.2.2.2.2.2.2.2.2.2.2.2.2.2.2.2.2.2.2.2.2)).mono ?_;rintro e1 w1 ⟨rfl,k1⟩;have s2:=keepo20 k1 hHeld
    go_wp2_with fail
    refine hK.out _ _ ?_ (fun hHeld=>?_)
    ·(try dsimp only);(first | assumption | exact s3 | exact s2 | exact s1)
    clear hK K
    try simp only [Act.put,sA,sB,sC]
    refine tk 4 ⟨some 9,_,_,_,_,_⟩ ?_ rfl (by kernel_rfl) (fun _ _ _ h=>h) (by rfl) ?_ (by assumption) ?_
    rotate_left
    ·intro w hSw;(try dsimp only at hSw);go_simp;(all_goals with_reducible rfl)
    simp only [Act.put,sA,sB,sC]
    refine tk 5 ⟨some 10,_,_,_,_,_⟩ ?_ rfl (by kernel_rfl) (fun _ _ _ h=>h) (by rfl) ?_ (by assumption) ?_
    rotate_left
    ·intro w hSw;(try dsimp only at hSw);go_simp;(all_goals with_reducible rfl)
    simp only [Act.put,sA,sB,sC]
    refine tk 6 ⟨some 11,_,_,_,_,_⟩ ?_ rfl (by kernel_rfl) (fun _ _ _ h=>h) (by rfl) ?_ (by assumption) ?_
    rotate_left
    ·intro w hSw;(try dsimp only at hSw);go_simp;(all_goals with_reducible rfl)
    simp only [Act.put,sA,sB,sC]
    refine tk 7 ⟨some 12,_,_,_,_,_⟩ ?_ rfl (by kernel_rfl) (fun _ _ _ h=>h) (by rfl) ?_ (by assumption) ?_
    rotate_left
    ·intro w hSw;(try dsimp only at hSw);go_simp;(all_goals with_reducible rfl)
    simp only [Act.put,sA,sB,sC]
    refine tk 8 ⟨some 13,_,_,_,_,_⟩ ?_ rfl (by kernel_rfl) (fun _ _ _ h=>h) (by rfl) ?_ (by assumption) ?_
    rotate_left
    ·intro w hSw;(try dsimp only at hSw);go_simp;(all_goals with_reducible rfl)
    simp only [Act.put,sA,sB,sC]
    refine tk 9 ⟨some 14,_,_,_,_,_⟩ ?_ rfl (by kernel_rfl) (fun _ _ _ h=>h) (by rfl) ?_ (by assumption) ?_
    rotate_left
    ·intro w hSw;(try dsimp only at hSw);go_simp;(all_goals with_reducible rfl)
    simp only [Act.put,sA,sB,sC]
    refine tk 10 ⟨some 15,_,_,_,_,_⟩ ?_ rfl (by kernel_rfl) (fun _ _ _ h=>h) (by rfl) ?_ (by assumption) ?_
    rotate_left
    ·intro w hSw;(try dsimp only at hSw);go_simp;(all_goals with_reducible rfl)
    simp only [Act.put,sA,sB,sC]
    refine tk 11 ⟨some 16,_,_,_,_,_⟩ ?_ rfl (by kernel_rfl) (fun _ _ _ h=>h) (by rfl) ?_ (by assumption) ?_
    rotate_left
    ·intro w hSw;(try dsimp only at hSw);go_simp;(all_goals with_reducible rfl)
    simp only [Act.put,sA,sB,sC]
    refine tk 12 ⟨some 17,_,_,_,_,_⟩ ?_ rfl (by kernel_rfl) (fun _ _ _ h=>h) (by rfl) ?_ (by assumption) ?_
    rotate_left
    ·intro w hSw;(try dsimp only at hSw);go_simp;(all_goals with_reducible rfl)
    simp only [Act.put,sA,sB,sC]
    refine tk 13 ⟨some 18,_,_,_,_,_⟩ ?_ rfl (by kernel_rfl) (fun _ _ _ h=>h) (by rfl) ?_ (by assumption) ?_
    rotate_left
    ·intro w hSw;(try dsimp only at hSw);go_simp;(all_goals with_reducible rfl)
    simp only [Act.put,sA,sB,sC]
    refine tk 14 ⟨some 19,_,_,_,_,_⟩ ?_ rfl (by kernel_rfl) (fun _ _ _ h=>h) (by rfl) ?_ (by assumption) ?_
    rotate_left
    ·intro w hSw;(try dsimp only at hSw);go_simp;(all_goals with_reducible rfl)
    simp only [Act.put,sA,sB,sC]
    refine tk 15 ⟨some 20,_,_,_,_,_⟩ ?_ rfl (by kernel_rfl) (fun _ _ _ h=>h) (by rfl) ?_ (by assumption) ?_
    rotate_left
    ·intro w hSw;(try dsimp only at hSw);go_simp;(all_goals with_reducible rfl)
    simp only [Act.put,sA,sB,sC]
    refine tk 16 ⟨some 21,_,_,_,_,_⟩ ?_ rfl (by kernel_rfl) (fun _ _ _ h=>h) (by rfl) ?_ (by assumption) ?_
    rotate_left
    ·intro w hSw;(try dsimp only at hSw);go_simp;(all_goals with_reducible rfl)
    simp only [Act.put,sA,sB,sC]
    refine tk 17 ⟨some 22,_,_,_,_,_⟩ ?_ rfl (by kernel_rfl) (fun _ _ _ h=>h) (by rfl) ?_ (by assumption) ?_
    rotate_left
    ·intro w hSw;(try dsimp only at hSw);go_simp;(all_goals with_reducible rfl)
    simp only [Act.put,sA,sB,sC]
    refine tk 18 ⟨some 23,_,_,_,_,_⟩ ?_ rfl (by kernel_rfl) (fun _ _ _ h=>h) (by rfl) ?_ (by assumption) ?_
    rotate_left
    ·intro w hSw;(try dsimp only at hSw);go_simp;(all_goals with_reducible rfl)
    simp only [Act.put,sA,sB,sC]
    refine tk 19 ⟨some 24,_,_,_,_,_⟩ ?_ rfl (by kernel_rfl) (fun _ _ _ h=>h) (by rfl) ?_ (by assumption) ?_
    rotate_left
    ·intro w hSw;(try dsimp only at hSw);go_simp;(all_goals with_reducible rfl)
    simp only [Act.put,sA,sB,sC]
    refine tk 20 ⟨some 25,_,_,_,_,_⟩ ?_ rfl (by kernel_rfl) (fun _ _ _ h=>h) (by rfl) ?_ (by assumption) ?_
    rotate_left
    ·intro w hSw;(try dsimp only at hSw);go_simp;(all_goals with_reducible rfl)
    simp only [Act.put,sA,sB,sC]
    refine tk 21 ⟨some 26,_,_,_,_,_⟩ ?_ rfl (by kernel_rfl) (fun _ _ _ h=>h) (by rfl) ?_ (by assumption) ?_
    rotate_left
    ·intro w hSw;(try dsimp only at hSw);go_simp;(all_goals with_reducible rfl)
    simp only [Act.put,sA,sB,sC]
    refine tk 22 ⟨some 27,_,_,_,_,_⟩ ?_ rfl (by kernel_rfl) (fun _ _ _ h=>h) (by rfl) ?_ (by assumption) ?_
    rotate_left
    ·intro w hSw;(try dsimp only at hSw);go_simp;(all_goals with_reducible rfl)
    simp only [Act.put,sA,sB,sC]
    refine wpAnyH_ready (rs:=[23]) (by kernel_rfl) (by simp) ?_
    refine AllReadyH.cons (o:=⟨some 28,_,_,_,_,_⟩) rfl (fun K hK=>?_) AllReadyH.nil
    go_simp
    refine(CM.out _).mono ?_;rintro e2 w2 ⟨rfl,k2⟩;have s3:=keepo20 k2 hHeld
    go_wp2_with fail
    refine hK.out _ _ ?_ (fun hHeld=>?_)
    ·(try dsimp only);(first | assumption | exact s3 | exact s2 | exact s1)
    clear hK K
    try simp only [Act.put,sA,sB,sC]
    refine tk 24 ⟨some 29,_,_,_,_,_⟩ ?_ rfl (by kernel_rfl) (fun _ _ _ h=>h) (by rfl) ?_ (by assumption) ?_
    rotate_left
    ·intro w hSw;(try dsimp only at hSw);go_simp;(all_goals with_reducible rfl)
    simp only [Act.put,sA,sB,sC]
    refine tk 25 ⟨some 4,_,_,_,_,_⟩ ?_ rfl (by kernel_rfl) (fun _ _ _ h=>h) (by rfl) ?_ (by assumption) ?_
    rotate_left
    ·intro w hSw;(try dsimp only at hSw);go_simp;(all_goals with_reducible rfl)
    simp only [Act.put,sA,sB,sC]
    refine wpAnyH_done (by kernel_rfl) ?_ _
    go_wp2_with fail
    go_ret
    exact⟨ret_bool (by simp [HSX.out,HAX.out]),hHeld.2.2.2.2.2.2.2.2.2.2.2.2.2.2.2.2.2.2.2.2⟩
  ·have hd:(sx == sd)=false:=by simpa using hsx
   have HSX:=Lib.hid hsx
   clear hsx
   go_enter Tryz.func137,Tryz.ntmps137
   go_upto_region 1 with (fail)
   have s1:=drewo20 s0
   clear s0
   refine wp_region_held_drew (S:=(fun w'=>cb16 w' (w.heap.size) (.slice At nt ct) (.slice Ak nk ck) (.int .i64 a) (.int .i64 b) (.int .i64 c) (.int .i64 d) (.int .i64 e) (.int .i64 W) (.int .i64 H) (x) (r) (y) (.int .i64 T) (.int .i64 Z) (.slice (some ⟨gu,ou,none⟩) N cp) (.int .i64 sd) (w'.cell? ⟨gu,ou+k*4,none⟩=some (.int .i64 sx)∧w'.cell? ⟨gu,ou+k*4+1,none⟩=some (.int .i64 kx)∧w'.cell? ⟨gu,ou+k*4+2,none⟩=some (.int .i64 ax)∧w'.cell? ⟨gu,ou+k*4+3,none⟩=some (.int .i64 tx)∧Kp w w'))) (by kernel_rfl) ?_ (fun hHeld=>?_)
   ·exact s1
   refine tk 0 ⟨some 5,_,_,_,_,_⟩ ?_ rfl (by kernel_rfl) (fun _ _ _ h=>h) (by rfl) ?_ (by assumption) ?_
   rotate_left
   ·intro w hSw;(try dsimp only at hSw);go_simp;(all_goals with_reducible rfl)
   simp only [Act.put,sA,sB,sC]
   refine tk 1 ⟨some 6,_,_,_,_,_⟩ ?_ rfl (by kernel_rfl) (fun _ _ _ h=>h) (by rfl) ?_ (by assumption) ?_
   rotate_left
   ·intro w hSw;(try dsimp only at hSw);go_simp;(all_goals with_reducible rfl)
   simp only [Act.put,sA,sB,sC]
   refine tk 2 ⟨some 7,_,_,_,_,_⟩ ?_ rfl (by kernel_rfl) (fun _ _ _ h=>h) (by rfl) ?_ (by assumption) ?_
   rotate_left
   ·intro w hSw;(try dsimp only at hSw);go_simp;(all_goals with_reducible rfl)
   simp only [Act.put,sA,sB,sC]
   refine wpAnyH_ready (rs:=[3]) (by kernel_rfl) (by simp) ?_
   refine AllReadyH.cons (o:=⟨some 8,_,_,_,_,_⟩) rfl (fun K hK=>?_) AllReadyH.nil
   go_simp
   refine(CU.out _ (HS.out.keep hHeld.2.2.2.2.2.2.2.2.2.2.2.2.2.2.2.2.2.2.2.2)).mono ?_;rintro e1 w1 ⟨rfl,k1⟩;have s2:=keepo20 k1 hHeld
   go_wp2_with fail
   refine hK.out _ _ ?_ (fun hHeld=>?_)
   ·(try dsimp only);(first | assumption | exact s3 | exact s2 | exact s1)
   clear hK K
   try simp only [Act.put,sA,sB,sC]
   refine tk 4 ⟨some 9,_,_,_,_,_⟩ ?_ rfl (by kernel_rfl) (fun _ _ _ h=>h) (by rfl) ?_ (by assumption) ?_
   rotate_left
   ·intro w hSw;(try dsimp only at hSw);go_simp;(all_goals with_reducible rfl)
   simp only [Act.put,sA,sB,sC]
   refine tk 5 ⟨some 10,_,_,_,_,_⟩ ?_ rfl (by kernel_rfl) (fun _ _ _ h=>h) (by rfl) ?_ (by assumption) ?_
   rotate_left
   ·intro w hSw;(try dsimp only at hSw);go_simp;(all_goals with_reducible rfl)
   simp only [Act.put,sA,sB,sC]
   refine tk 6 ⟨some 11,_,_,_,_,_⟩ ?_ rfl (by kernel_rfl) (fun _ _ _ h=>h) (by rfl) ?_ (by assumption) ?_
   rotate_left
   ·intro w hSw;(try dsimp only at hSw);go_simp;(all_goals with_reducible rfl)
   simp only [Act.put,sA,sB,sC]
   refine tk 7 ⟨some 12,_,_,_,_,_⟩ ?_ rfl (by kernel_rfl) (fun _ _ _ h=>h) (by rfl) ?_ (by assumption) ?_
   rotate_left
   ·intro w hSw;(try dsimp only at hSw);go_simp;(all_goals with_reducible rfl)
   simp only [Act.put,sA,sB,sC]
   refine tk 8 ⟨some 13,_,_,_,_,_⟩ ?_ rfl (by kernel_rfl) (fun _ _ _ h=>h) (by rfl) ?_ (by assumption) ?_
   rotate_left
   ·intro w hSw;(try dsimp only at hSw);go_simp;(all_goals with_reducible rfl)
   simp only [Act.put,sA,sB,sC]
   refine tk 9 ⟨some 14,_,_,_,_,_⟩ ?_ rfl (by kernel_rfl) (fun _ _ _ h=>h) (by rfl) ?_ (by assumption) ?_
   rotate_left
   ·intro w hSw;(try dsimp only at hSw);go_simp;(all_goals with_reducible rfl)
   simp only [Act.put,sA,sB,sC]
   refine tk 10 ⟨some 15,_,_,_,_,_⟩ ?_ rfl (by kernel_rfl) (fun _ _ _ h=>h) (by rfl) ?_ (by assumption) ?_
   rotate_left
   ·intro w hSw;(try dsimp only at hSw);go_simp;(all_goals with_reducible rfl)
   simp only [Act.put,sA,sB,sC]
   refine tk 11 ⟨some 16,_,_,_,_,_⟩ ?_ rfl (by kernel_rfl) (fun _ _ _ h=>h) (by rfl) ?_ (by assumption) ?_
   rotate_left
   ·intro w hSw;(try dsimp only at hSw);go_simp;(all_goals with_reducible rfl)
   simp only [Act.put,sA,sB,sC]
   refine tk 12 ⟨some 17,_,_,_,_,_⟩ ?_ rfl (by kernel_rfl) (fun _ _ _ h=>h) (by rfl) ?_ (by assumption) ?_
   rotate_left
   ·intro w hSw;(try dsimp only at hSw);go_simp;(all_goals with_reducible rfl)
   simp only [Act.put,sA,sB,sC]
   refine tk 13 ⟨some 18,_,_,_,_,_⟩ ?_ rfl (by kernel_rfl) (fun _ _ _ h=>h) (by rfl) ?_ (by assumption) ?_
   rotate_left
   ·intro w hSw;(try dsimp only at hSw);go_simp;(all_goals with_reducible rfl)
   simp only [Act.put,sA,sB,sC]
   refine tk 14 ⟨some 19,_,_,_,_,_⟩ ?_ rfl (by kernel_rfl) (fun _ _ _ h=>h) (by rfl) ?_ (by assumption) ?_
   rotate_left
   ·intro w hSw;(try dsimp only at hSw);go_simp;(all_goals with_reducible rfl)
   simp only [Act.put,sA,sB,sC]
   refine tk 15 ⟨some 20,_,_,_,_,_⟩ ?_ rfl (by kernel_rfl) (fun _ _ _ h=>h) (by rfl) ?_ (by assumption) ?_
   rotate_left
   ·intro w hSw;(try dsimp only at hSw);go_simp;(all_goals with_reducible rfl)
   simp only [Act.put,sA,sB,sC]
   refine tk 16 ⟨some 21,_,_,_,_,_⟩ ?_ rfl (by kernel_rfl) (fun _ _ _ h=>h) (by rfl) ?_ (by assumption) ?_
   rotate_left
   ·intro w hSw;(try dsimp only at hSw);go_simp;(all_goals with_reducible rfl)
   simp only [Act.put,sA,sB,sC]
   refine tn 17 ⟨some 22,_,_,_,_,_⟩ rfl (by kernel_rfl) (fun _ _ _ h=>h) (by rfl) (by assumption) ?_
   simp only [Act.put,sA,sB,sC]
   refine tn 18 ⟨some 23,_,_,_,_,_⟩ rfl (by kernel_rfl) (fun _ _ _ h=>h) (by rfl) (by assumption) ?_
   simp only [Act.put,sA,sB,sC]
   refine tn 19 ⟨some 24,_,_,_,_,_⟩ rfl (by kernel_rfl) (fun _ _ _ h=>h) (by rfl) (by assumption) ?_
   simp only [Act.put,sA,sB,sC]
   refine tn 20 ⟨some 25,_,_,_,_,_⟩ rfl (by kernel_rfl) (fun _ _ _ h=>h) (by rfl) (by assumption) ?_
   simp only [Act.put,sA,sB,sC]
   refine tn 21 ⟨some 26,_,_,_,_,_⟩ rfl (by kernel_rfl) (fun _ _ _ h=>h) (by rfl) (by assumption) ?_
   simp only [Act.put,sA,sB,sC]
   refine tn 22 ⟨some 27,_,_,_,_,_⟩ rfl (by kernel_rfl) (fun _ _ _ h=>h) (by rfl) (by assumption) ?_
   simp only [Act.put,sA,sB,sC]
   refine wpAnyH_ready (rs:=[23]) (by kernel_rfl) (by simp) ?_
   refine AllReadyH.cons (o:=⟨some 28,_,_,_,_,_⟩) rfl (fun K hK=>?_) AllReadyH.nil
   go_simp
   refine hK.out _ _ ?_ (fun hHeld=>?_)
   ·(try dsimp only);(first | assumption | exact s3 | exact s2 | exact s1)
   clear hK K
   try simp only [Act.put,sA,sB,sC]
   refine tk 24 ⟨some 29,_,_,_,_,_⟩ ?_ rfl (by kernel_rfl) (fun _ _ _ h=>h) (by rfl) ?_ (by assumption) ?_
   rotate_left
   ·intro w hSw;(try dsimp only at hSw);go_simp;(all_goals with_reducible rfl)
   simp only [Act.put,sA,sB,sC]
   refine tk 25 ⟨some 4,_,_,_,_,_⟩ ?_ rfl (by kernel_rfl) (fun _ _ _ h=>h) (by rfl) ?_ (by assumption) ?_
   rotate_left
   ·intro w hSw;(try dsimp only at hSw);go_simp;(all_goals with_reducible rfl)
   simp only [Act.put,sA,sB,sC]
   refine wpAnyH_done (by kernel_rfl) ?_ _
   go_wp2_with fail
   go_ret
   exact⟨ret_bool (by simp [HSX.out]),hHeld.2.2.2.2.2.2.2.2.2.2.2.2.2.2.2.2.2.2.2.2⟩
end Go.Proofs.YtacgknllagdkoaaGreatDoor
