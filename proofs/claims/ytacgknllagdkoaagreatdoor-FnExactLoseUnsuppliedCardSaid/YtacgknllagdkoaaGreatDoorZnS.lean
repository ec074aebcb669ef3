/-
 The program's test whether a unit exerts control on a hex, its closures, and whether a hex is in a zone. Nothing that was there is changed. The table of directions holds what the program's text lays.
-/
import Derived.Test.YtacgknllagdkoaaGreatDoorZnR
import Derived.Test.YtacgknllagdkoaaGreatDoorQa
import Derived.Test.YtacgknllagdkoaaGreatDoorQn
import Derived.Test.YtacgknllagdkoaaGreatDoorQa
namespace Go.Proofs.YtacgknllagdkoaaGreatDoor
open Go.RowKit
theorem keepz21 {W0 w w1:World} {p0 p1 p2 p3 p4 p5 p6 p7 p8 p9 p10 p11 p12 p13 p14 p15 p16 p17 p18 p19 p20:Addr} {v0 v1 v2 v3 v4 v5 v6 v7 v8 v9 v10 v11 v12 v13 v14 v15 v16 v17 v18 v19 v20:Value} (k:Kp w w1) (h:w.cell? p0=some v0∧w.cell? p1=some v1∧w.cell? p2=some v2∧w.cell? p3=some v3∧w.cell? p4=some v4∧w.cell? p5=some v5∧w.cell? p6=some v6∧w.cell? p7=some v7∧w.cell? p8=some v8∧w.cell? p9=some v9∧w.cell? p10=some v10∧w.cell? p11=some v11∧w.cell? p12=some v12∧w.cell? p13=some v13∧w.cell? p14=some v14∧w.cell? p15=some v15∧w.cell? p16=some v16∧w.cell? p17=some v17∧w.cell? p18=some v18∧w.cell? p19=some v19∧w.cell? p20=some v20∧Kp W0 w):w1.cell? p0=some v0∧w1.cell? p1=some v1∧w1.cell? p2=some v2∧w1.cell? p3=some v3∧w1.cell? p4=some v4∧w1.cell? p5=some v5∧w1.cell? p6=some v6∧w1.cell? p7=some v7∧w1.cell? p8=some v8∧w1.cell? p9=some v9∧w1.cell? p10=some v10∧w1.cell? p11=some v11∧w1.cell? p12=some v12∧w1.cell? p13=some v13∧w1.cell? p14=some v14∧w1.cell? p15=some v15∧w1.cell? p16=some v16∧w1.cell? p17=some v17∧w1.cell? p18=some v18∧w1.cell? p19=some v19∧w1.cell? p20=some v20∧Kp W0 w1 :=
 ⟨k.cell h.1,k.cell h.2.1,k.cell h.2.2.1,k.cell h.2.2.2.1,k.cell h.2.2.2.2.1,k.cell h.2.2.2.2.2.1,k.cell h.2.2.2.2.2.2.1,k.cell h.2.2.2.2.2.2.2.1,k.cell h.2.2.2.2.2.2.2.2.1,k.cell h.2.2.2.2.2.2.2.2.2.1,k.cell h.2.2.2.2.2.2.2.2.2.2.1,k.cell h.2.2.2.2.2.2.2.2.2.2.2.1,k.cell h.2.2.2.2.2.2.2.2.2.2.2.2.1,k.cell h.2.2.2.2.2.2.2.2.2.2.2.2.2.1,k.cell h.2.2.2.2.2.2.2.2.2.2.2.2.2.2.1,k.cell h.2.2.2.2.2.2.2.2.2.2.2.2.2.2.2.1,k.cell h.2.2.2.2.2.2.2.2.2.2.2.2.2.2.2.2.1,k.cell h.2.2.2.2.2.2.2.2.2.2.2.2.2.2.2.2.2.1,k.cell h.2.2.2.2.2.2.2.2.2.2.2.2.2.2.2.2.2.2.1,k.cell h.2.2.2.2.2.2.2.2.2.2.2.2.2.2.2.2.2.2.2.1,k.cell h.2.2.2.2.2.2.2.2.2.2.2.2.2.2.2.2.2.2.2.2.1,h.2.2.2.2.2.2.2.2.2.2.2.2.2.2.2.2.2.2.2.2.2.trans k⟩
set_option maxRecDepth 100000 in
set_option maxHeartbeats 4000000 in
theorem isSource_any (At Ak:Option Addr) (nt nk ct ck:Nat) (l:List Ter) (m:List Knd) (a b c d e W H:Int) (x r y:Value) (lt lr ld:List Int) (T Z:Int) (u:Value) (sd:Int) (sx kx ax tx:Int) (i:Int) (w:World) (ht:Tab w) (hB:BrdAt w At Ak nt nk l m x r y lt lr ld) (hok:brdOk ⟨l,m,a,b,c,d,e⟩ W H lt lr ld=true) (hi:onI W H i=true) (hu:uniOk l m W H lt ⟨sx,kx,ax,tx⟩=true) :
  Calls Tryz.prog 268 #[.agg #[.slice At nt ct,.slice Ak nk ck,.int .i64 a,.int .i64 b,.int .i64 c,.int .i64 d,.int .i64 e,.int .i64 W,.int .i64 H,x,r,y,.int .i64 T,.int .i64 Z,u,.int .i64 sd],ux sx kx ax tx,.int .i64 i] w fun e' w'=>e'=.returned (.bool (srcB l m lt lr ld W sd i ⟨sx,kx,ax,tx⟩))∧Kp w w':=by
 obtain⟨g1,g2,g3,g4⟩:=mapOk_side (brdOk_map hok)
 have hlen:=mapOk_len (brdOk_map hok)
 obtain⟨n,rfl,hn⟩:=onI_at hi hlen
 obtain⟨j,kd,e1,hj,hkd,hz⟩:=uniOk_kind hu
 simp only at e1
 subst e1
 have hmk:=hB.R.rk.1
 obtain⟨gk,ok,rfl,hck⟩:=hB.R.rk.2 (by omega)
 obtain⟨_,_,_,_,qz,_⟩:=hck j kd hkd
 simp only at hz
 rw [← hz] at qz
 obtain⟨zb,hzb⟩:∃ zb,zb=znK m (j:Int):=⟨_,rfl⟩
 rw [← hzb] at qz
 have on:=fun h=>uniOk_on hu h
 simp only at on
 have CO:=Lib.hid (fun (w:World) hB=>isOpen_any At (some ⟨gk,ok,none⟩) nt nk ct ck l m a b c d e W H x r y lt lr ld j n w hB hok hj hn)
 have CR:Hid (ax ≠ -1→∀ w,Tab w→Lists w x r y lt lr ld→Calls Tryz.prog 282 #[mp W H x r y,.int .i64 ax,.int .i64 (n:Int)] w fun e' w'=>e'=.returned (.bool (rchB W lr ld ax n))∧Kp w w'):=Lib.hid fun h w ht hL =>
  reaches_any W H x r y lt lr ld ax n w ht hL g1 g2 g3 g4 (on h) hi
 have HE:Hid (srcB l m lt lr ld W sd (n:Int) ⟨sx,(j:Int),ax,tx⟩=(decide (sx=sd) && (decide (ax ≠ -1) && (zb && (opnB l lt j n && rchB W lr ld ax n))))):=Lib.hid (by
  unfold srcB exB
  simp only [Int.toNat_natCast]
  rw [hzb])
 rw [HE.out]
 have HB:=Lib.hid hB
 have HT:=Lib.hid ht
 have hjn:(j:Int)<nk:=by omega
 have hj0:j<nk:=by omega
 generalize opnB l lt j n=O at CO ⊢
 generalize rchB W lr ld ax n=R at CR ⊢
 clear ht hB hok hi hu HE hck hmk hlen hkd hz hzb on
 by_cases m1:sx=sd
 ·subst m1
  have d0:decide (sx=sx)=true:=by simp
  rw [d0,Bool.true_and]
  clear d0
  by_cases m2:ax=-1
  ·subst m2
   clear CO CR
   have KA:Kp w ((w.alloc (.cells #[.slice At nt ct,.slice (some ⟨gk,ok,none⟩) nk ck,.int .i64 a,.int .i64 b,.int .i64 c,.int .i64 d,.int .i64 e,.int .i64 W,.int .i64 H,x,r,y,.int .i64 T,.int .i64 Z,u,.int .i64 sx] 289)).alloc (.cells #[.int .i64 sx,.int .i64 (j:Int),.int .i64 (-1),.int .i64 tx] 152)):=((Kp.refl w).alloc _).alloc _
   have s0:cb16 ((w.alloc (.cells #[.slice At nt ct,.slice (some ⟨gk,ok,none⟩) nk ck,.int .i64 a,.int .i64 b,.int .i64 c,.int .i64 d,.int .i64 e,.int .i64 W,.int .i64 H,x,r,y,.int .i64 T,.int .i64 Z,u,.int .i64 sx] 289)).alloc (.cells #[.int .i64 sx,.int .i64 (j:Int),.int .i64 (-1),.int .i64 tx] 152)) (w.heap.size) (.slice At nt ct) (.slice (some ⟨gk,ok,none⟩) nk ck) (.int .i64 a) (.int .i64 b) (.int .i64 c) (.int .i64 d) (.int .i64 e) (.int .i64 W) (.int .i64 H) (x) (r) (y) (.int .i64 T) (.int .i64 Z) (u) (.int .i64 sx) (cb4 ((w.alloc (.cells #[.slice At nt ct,.slice (some ⟨gk,ok,none⟩) nk ck,.int .i64 a,.int .i64 b,.int .i64 c,.int .i64 d,.int .i64 e,.int .i64 W,.int .i64 H,x,r,y,.int .i64 T,.int .i64 Z,u,.int .i64 sx] 289)).alloc (.cells #[.int .i64 sx,.int .i64 (j:Int),.int .i64 (-1),.int .i64 tx] 152)) (w.heap.size+1) (.int .i64 sx) (.int .i64 (j:Int)) (.int .i64 (-1)) (.int .i64 tx) (((w.alloc (.cells #[.slice At nt ct,.slice (some ⟨gk,ok,none⟩) nk ck,.int .i64 a,.int .i64 b,.int .i64 c,.int .i64 d,.int .i64 e,.int .i64 W,.int .i64 H,x,r,y,.int .i64 T,.int .i64 Z,u,.int .i64 sx] 289)).alloc (.cells #[.int .i64 sx,.int .i64 (j:Int),.int .i64 (-1),.int .i64 tx] 152)).cell? ⟨gk,ok+j*6+4,none⟩=some (.bool zb)∧Kp w ((w.alloc (.cells #[.slice At nt ct,.slice (some ⟨gk,ok,none⟩) nk ck,.int .i64 a,.int .i64 b,.int .i64 c,.int .i64 d,.int .i64 e,.int .i64 W,.int .i64 H,x,r,y,.int .i64 T,.int .i64 Z,u,.int .i64 sx] 289)).alloc (.cells #[.int .i64 sx,.int .i64 (j:Int),.int .i64 (-1),.int .i64 tx] 152)))):=⟨by simp [go_sem],by simp [go_sem],by simp [go_sem],by simp [go_sem],by simp [go_sem],by simp [go_sem],by simp [go_sem],by simp [go_sem],by simp [go_sem],by simp [go_sem],by simp [go_sem],by simp [go_sem],by simp [go_sem],by simp [go_sem],by simp [go_sem],by simp [go_sem],by simp [go_sem],by simp [go_sem],by simp [go_sem],by simp [go_sem],KA.cell qz,KA⟩
   go_enter Tryz.func268,Tryz.ntmps268
   go_wp2_with fail
   refine(onMap_no _ _ _ _).mono ?_
   rintro e1 w1 ⟨rfl,k1⟩
   go_wp2_with fail
   go_ret
   exact⟨ret_bool (by simp),KA.trans k1⟩
  ·have d1:decide (ax ≠ -1)=true:=by simpa using m2
   rw [d1,Bool.true_and]
   clear d1
   have CR2:=Lib.hid (CR.out m2)
   clear CR
   have KA:Kp w ((w.alloc (.cells #[.slice At nt ct,.slice (some ⟨gk,ok,none⟩) nk ck,.int .i64 a,.int .i64 b,.int .i64 c,.int .i64 d,.int .i64 e,.int .i64 W,.int .i64 H,x,r,y,.int .i64 T,.int .i64 Z,u,.int .i64 sx] 289)).alloc (.cells #[.int .i64 sx,.int .i64 (j:Int),.int .i64 ax,.int .i64 tx] 152)):=((Kp.refl w).alloc _).alloc _
   have s0:cb16 ((w.alloc (.cells #[.slice At nt ct,.slice (some ⟨gk,ok,none⟩) nk ck,.int .i64 a,.int .i64 b,.int .i64 c,.int .i64 d,.int .i64 e,.int .i64 W,.int .i64 H,x,r,y,.int .i64 T,.int .i64 Z,u,.int .i64 sx] 289)).alloc (.cells #[.int .i64 sx,.int .i64 (j:Int),.int .i64 ax,.int .i64 tx] 152)) (w.heap.size) (.slice At nt ct) (.slice (some ⟨gk,ok,none⟩) nk ck) (.int .i64 a) (.int .i64 b) (.int .i64 c) (.int .i64 d) (.int .i64 e) (.int .i64 W) (.int .i64 H) (x) (r) (y) (.int .i64 T) (.int .i64 Z) (u) (.int .i64 sx) (cb4 ((w.alloc (.cells #[.slice At nt ct,.slice (some ⟨gk,ok,none⟩) nk ck,.int .i64 a,.int .i64 b,.int .i64 c,.int .i64 d,.int .i64 e,.int .i64 W,.int .i64 H,x,r,y,.int .i64 T,.int .i64 Z,u,.int .i64 sx] 289)).alloc (.cells #[.int .i64 sx,.int .i64 (j:Int),.int .i64 ax,.int .i64 tx] 152)) (w.heap.size+1) (.int .i64 sx) (.int .i64 (j:Int)) (.int .i64 ax) (.int .i64 tx) (((w.alloc (.cells #[.slice At nt ct,.slice (some ⟨gk,ok,none⟩) nk ck,.int .i64 a,.int .i64 b,.int .i64 c,.int .i64 d,.int .i64 e,.int .i64 W,.int .i64 H,x,r,y,.int .i64 T,.int .i64 Z,u,.int .i64 sx] 289)).alloc (.cells #[.int .i64 sx,.int .i64 (j:Int),.int .i64 ax,.int .i64 tx] 152)).cell? ⟨gk,ok+j*6+4,none⟩=some (.bool zb)∧Kp w ((w.alloc (.cells #[.slice At nt ct,.slice (some ⟨gk,ok,none⟩) nk ck,.int .i64 a,.int .i64 b,.int .i64 c,.int .i64 d,.int .i64 e,.int .i64 W,.int .i64 H,x,r,y,.int .i64 T,.int .i64 Z,u,.int .i64 sx] 289)).alloc (.cells #[.int .i64 sx,.int .i64 (j:Int),.int .i64 ax,.int .i64 tx] 152)))):=⟨by simp [go_sem],by simp [go_sem],by simp [go_sem],by simp [go_sem],by simp [go_sem],by simp [go_sem],by simp [go_sem],by simp [go_sem],by simp [go_sem],by simp [go_sem],by simp [go_sem],by simp [go_sem],by simp [go_sem],by simp [go_sem],by simp [go_sem],by simp [go_sem],by simp [go_sem],by simp [go_sem],by simp [go_sem],by simp [go_sem],KA.cell qz,KA⟩
   cases zb
   ·clear CO CR2
    go_enter Tryz.func268,Tryz.ntmps268
    go_wp2_with fail
    refine(onMap_yes _ _ _ _ _ m2).mono ?_
    rintro e1 w1 ⟨rfl,k1⟩
    have s1:=keepz21 k1 s0
    clear s0
    go_wp2_with fail
    go_ret
    exact⟨ret_bool (by simp),s1.2.2.2.2.2.2.2.2.2.2.2.2.2.2.2.2.2.2.2.2.2⟩
   ·cases O
    ·clear CR2
     go_enter Tryz.func268,Tryz.ntmps268
     go_wp2_with fail
     refine(onMap_yes _ _ _ _ _ m2).mono ?_
     rintro e1 w1 ⟨rfl,k1⟩
     have s1:=keepz21 k1 s0
     clear s0
     go_wp2_with fail
     refine(CO.out _ (HB.out.keep s1.2.2.2.2.2.2.2.2.2.2.2.2.2.2.2.2.2.2.2.2.2)).mono ?_
     rintro e2 w2 ⟨rfl,k2⟩
     have s2:=keepz21 k2 s1
     clear s1
     go_wp2_with fail
     go_ret
     exact⟨ret_bool (by simp),s2.2.2.2.2.2.2.2.2.2.2.2.2.2.2.2.2.2.2.2.2.2⟩
    ·skip
     go_enter Tryz.func268,Tryz.ntmps268
     go_wp2_with fail
     refine(onMap_yes _ _ _ _ _ m2).mono ?_
     rintro e1 w1 ⟨rfl,k1⟩
     have s1:=keepz21 k1 s0
     clear s0
     go_wp2_with fail
     refine(CO.out _ (HB.out.keep s1.2.2.2.2.2.2.2.2.2.2.2.2.2.2.2.2.2.2.2.2.2)).mono ?_
     rintro e2 w2 ⟨rfl,k2⟩
     have s2:=keepz21 k2 s1
     clear s1
     go_wp2_with fail
     refine(CR2.out _ (HT.out.keep s2.2.2.2.2.2.2.2.2.2.2.2.2.2.2.2.2.2.2.2.2.2) (HB.out.L.keep s2.2.2.2.2.2.2.2.2.2.2.2.2.2.2.2.2.2.2.2.2.2)).mono ?_
     rintro e3 w3 ⟨rfl,k3⟩
     go_wp2_with fail
     go_ret
     exact⟨ret_bool (by simp),s2.2.2.2.2.2.2.2.2.2.2.2.2.2.2.2.2.2.2.2.2.2.trans k3⟩
 ·have d0:decide (sx=sd)=false:=by simpa using m1
  have d1:(sx == sd)=false:=by simpa using m1
  rw [d0,Bool.false_and]
  clear CO CR d0
  have KA:Kp w ((w.alloc (.cells #[.slice At nt ct,.slice (some ⟨gk,ok,none⟩) nk ck,.int .i64 a,.int .i64 b,.int .i64 c,.int .i64 d,.int .i64 e,.int .i64 W,.int .i64 H,x,r,y,.int .i64 T,.int .i64 Z,u,.int .i64 sd] 289)).alloc (.cells #[.int .i64 sx,.int .i64 (j:Int),.int .i64 ax,.int .i64 tx] 152)):=((Kp.refl w).alloc _).alloc _
  have s0:cb16 ((w.alloc (.cells #[.slice At nt ct,.slice (some ⟨gk,ok,none⟩) nk ck,.int .i64 a,.int .i64 b,.int .i64 c,.int .i64 d,.int .i64 e,.int .i64 W,.int .i64 H,x,r,y,.int .i64 T,.int .i64 Z,u,.int .i64 sd] 289)).alloc (.cells #[.int .i64 sx,.int .i64 (j:Int),.int .i64 ax,.int .i64 tx] 152)) (w.heap.size) (.slice At nt ct) (.slice (some ⟨gk,ok,none⟩) nk ck) (.int .i64 a) (.int .i64 b) (.int .i64 c) (.int .i64 d) (.int .i64 e) (.int .i64 W) (.int .i64 H) (x) (r) (y) (.int .i64 T) (.int .i64 Z) (u) (.int .i64 sd) (cb4 ((w.alloc (.cells #[.slice At nt ct,.slice (some ⟨gk,ok,none⟩) nk ck,.int .i64 a,.int .i64 b,.int .i64 c,.int .i64 d,.int .i64 e,.int .i64 W,.int .i64 H,x,r,y,.int .i64 T,.int .i64 Z,u,.int .i64 sd] 289)).alloc (.cells #[.int .i64 sx,.int .i64 (j:Int),.int .i64 ax,.int .i64 tx] 152)) (w.heap.size+1) (.int .i64 sx) (.int .i64 (j:Int)) (.int .i64 ax) (.int .i64 tx) (((w.alloc (.cells #[.slice At nt ct,.slice (some ⟨gk,ok,none⟩) nk ck,.int .i64 a,.int .i64 b,.int .i64 c,.int .i64 d,.int .i64 e,.int .i64 W,.int .i64 H,x,r,y,.int .i64 T,.int .i64 Z,u,.int .i64 sd] 289)).alloc (.cells #[.int .i64 sx,.int .i64 (j:Int),.int .i64 ax,.int .i64 tx] 152)).cell? ⟨gk,ok+j*6+4,none⟩=some (.bool zb)∧Kp w ((w.alloc (.cells #[.slice At nt ct,.slice (some ⟨gk,ok,none⟩) nk ck,.int .i64 a,.int .i64 b,.int .i64 c,.int .i64 d,.int .i64 e,.int .i64 W,.int .i64 H,x,r,y,.int .i64 T,.int .i64 Z,u,.int .i64 sd] 289)).alloc (.cells #[.int .i64 sx,.int .i64 (j:Int),.int .i64 ax,.int .i64 tx] 152)))):=⟨by simp [go_sem],by simp [go_sem],by simp [go_sem],by simp [go_sem],by simp [go_sem],by simp [go_sem],by simp [go_sem],by simp [go_sem],by simp [go_sem],by simp [go_sem],by simp [go_sem],by simp [go_sem],by simp [go_sem],by simp [go_sem],by simp [go_sem],by simp [go_sem],by simp [go_sem],by simp [go_sem],by simp [go_sem],by simp [go_sem],KA.cell qz,KA⟩
  go_enter Tryz.func268,Tryz.ntmps268
  go_wp2_with fail
  go_ret
  exact⟨rfl,KA⟩
/-- A box holds a side's zone. -/
def ZonAt (w:World) (B1:Nat) (At Ak:Option Addr) (nt nk ct ck:Nat) (a b c d e W H:Int) (x r y:Value) (T Z:Int) (u:Value) (sd:Int):Prop:=ce16 w B1 (.slice At nt ct) (.slice Ak nk ck) (.int .i64 a) (.int .i64 b) (.int .i64 c) (.int .i64 d) (.int .i64 e) (.int .i64 W) (.int .i64 H) (x) (r) (y) (.int .i64 T) (.int .i64 Z) (u) (.int .i64 sd)
theorem ZonAt.keep {w w':World} {B1:Nat} {At Ak:Option Addr} {nt nk ct ck:Nat} {a b c d e W H:Int} {x r y:Value} {T Z:Int} {u:Value} {sd:Int} (h:ZonAt w B1 At Ak nt nk ct ck a b c d e W H x r y T Z u sd) (k:Kp w w'):ZonAt w' B1 At Ak nt nk ct ck a b c d e W H x r y T Z u sd :=
 ⟨k.cell h.1,k.cell h.2.1,k.cell h.2.2.1,k.cell h.2.2.2.1,k.cell h.2.2.2.2.1,k.cell h.2.2.2.2.2.1,k.cell h.2.2.2.2.2.2.1,k.cell h.2.2.2.2.2.2.2.1,k.cell h.2.2.2.2.2.2.2.2.1,k.cell h.2.2.2.2.2.2.2.2.2.1,k.cell h.2.2.2.2.2.2.2.2.2.2.1,k.cell h.2.2.2.2.2.2.2.2.2.2.2.1,k.cell h.2.2.2.2.2.2.2.2.2.2.2.2.1,k.cell h.2.2.2.2.2.2.2.2.2.2.2.2.2.1,k.cell h.2.2.2.2.2.2.2.2.2.2.2.2.2.2.1,k.cell h.2.2.2.2.2.2.2.2.2.2.2.2.2.2.2⟩
set_option maxRecDepth 100000 in
set_option maxHeartbeats 4000000 in
theorem hasClo_any (At Ak:Option Addr) (nt nk ct ck:Nat) (l:List Ter) (m:List Knd) (a b c d e W H:Int) (x r y:Value) (lt lr ld:List Int) (T Z:Int) (u:Value) (us:List Uni) (B1 B2:Nat) (sd i:Int) (z:Uni) (w:World) (ht:Tab w) (hB:BrdAt w At Ak nt nk l m x r y lt lr ld) (hok:brdOk ⟨l,m,a,b,c,d,e⟩ W H lt lr ld=true) (hst:staOk ⟨l,m,a,b,c,d,e⟩ W H lt T Z us=true) (hi:onI W H i=true) (hz:z ∈ us) (hb:ZonAt w B1 At Ak nt nk ct ck a b c d e W H x r y T Z u sd) (hc:w.cell? ⟨B2,0,none⟩=some (.int .i64 i)) :
  Calls Tryz.prog 267 #[ux z.s z.k z.a z.t,.pointer (some ⟨B1,0,none⟩),.pointer (some ⟨B2,0,none⟩)] w fun e' w'=>e'=.returned (.bool (srcB l m lt lr ld W sd i z))∧Kp w w':=by
 obtain⟨sx,kx,ax,tx⟩:=z
 have KA:Kp w (w.alloc (.cells #[.int .i64 sx,.int .i64 kx,.int .i64 ax,.int .i64 tx] 152)):=(Kp.refl w).alloc _
 have C1:=Lib.hid (isSource_any At Ak nt nk ct ck l m a b c d e W H x r y lt lr ld T Z u sd sx kx ax tx i _ (ht.keep KA) (hB.keep KA) hok hi ((staOk_parts hst).2.2.1 _ hz))
 have s0:ZonAt _ B1 At Ak nt nk ct ck a b c d e W H x r y T Z u sd:=ZonAt.keep hb KA
 have c0:=KA.cell hc
 obtain⟨z0,z1,z2,z3,z4,z5,z6,z7,z8,z9,z10,z11,z12,z13,z14,z15⟩:=s0
 generalize srcB l m lt lr ld W sd i ⟨sx,kx,ax,tx⟩=R at C1 ⊢
 clear ht hB hok hst hi hz hb hc
 go_enter Tryz.func267,Tryz.ntmps267
 go_wp2_with fail
 refine C1.out.mono ?_
 rintro e1 w1 ⟨rfl,k1⟩
 go_wp2_with fail
 go_ret
 exact⟨rfl,KA.trans k1⟩
set_option maxRecDepth 100000 in
set_option maxHeartbeats 4000000 in
theorem indexU_H (lb:Array Value) (p:Uni→Bool) (l:List Uni) (v:Value) (W1 w:World) (HP:∀ x ∈ l,∀ w,Kp W1 w→Calls Tryz.prog 267 (#[ux x.s x.k x.a x.t]++lb) w fun e w'=>e=.returned (.bool (p x))∧Kp w w')
  (hk:Kp W1 w) (hr:RdU w v l) (hl:l.length≤1048576) :
  Calls Tryz.prog 281 #[v,.func (.func 267) #[] lb] w fun e w'=>∃ R:Int,e=.returned (.int .i64 R)∧(-1≤R∧R≤1048576)∧decide (0≤R)=l.any p∧Kp w w':=by
 obtain⟨A,cp,rfl,h⟩:=hr
 have HA:=Lib.hid h
 have HPP:=Lib.hid HP
 obtain⟨B,hB⟩:∃ B,B=l.any p:=⟨_,rfl⟩
 rw [← hB]
 have HB:=Lib.hid hB
 clear h hB HP
 generalize hn:l.length=n at *
 have HN:=Lib.hid hn
 clear hn
 go_enter Tryz.func281,Tryz.ntmps281
 go_wp2_with fail
 go_loopw [5,8] (fun _ i wr=>∃ k:Nat,k≤n∧i=.int .i64 k∧Hid ((l.take k).any p=false)∧Kp w wr) (fun _ i _=>n - (intOf i).toNat)
 case atStart=>exact⟨0,by omega,rfl,Lib.hid (by simp),Kp.refl w⟩
 case round =>
  obtain⟨k,hkn,rfl,hE,kr⟩:=hrel
  by_cases hlt:k<n
  ·obtain⟨g',off,rfl,hc⟩:=HA.out (by omega)
   obtain⟨⟨sx,kx,ax,tx⟩,hx⟩:∃ x,l[k]?=some x:=⟨l[k]'(by have:=HN.out;omega),List.getElem?_eq_getElem _⟩
   obtain⟨a0,a1,a2,a3⟩:=(hc k _ hx).keep kr
   simp only at a0 a1 a2 a3
   have HX:=Lib.hid hx
   have HC:=Lib.hid (HPP.out _ (List.mem_of_getElem? hx))
   clear hc hx
   have hlt':(k:Int)<n:=by omega
   cases hok:p ⟨sx,kx,ax,tx⟩
   ·have HE2:Hid ((l.take (k+1)).any p=false):=Lib.hid (by
     rw [List.take_add_one,HX.out,List.any_append,hE.out]
     simp [hok])
    rw [hok] at HC
    clear hok
    go_wp2_with (go_at_call 267;refine(HC.out _ (hk.trans kr)).mono ?_;rintro e2 w2 ⟨rfl,k2⟩)
    go_roundw
    case rel=>exact⟨k+1,by omega,by go_num,HE2,kr.trans k2⟩
    case measure=>simp [intOf];omega
   ·have HE2:Hid (decide ((0:Int)≤(k:Int))=B):=Lib.hid (by
     rw [HB.out,List.any_eq_true.2 ⟨_,List.mem_of_getElem? HX.out,hok⟩]
     simp)
    rw [hok] at HC
    clear hok
    go_wp2_with (go_at_call 267;refine(HC.out _ (hk.trans kr)).mono ?_;rintro e2 w2 ⟨rfl,k2⟩)
    go_ret
    exact⟨_,rfl,⟨by omega,by omega⟩,HE2.out,kr.trans k2⟩
  ·obtain rfl:k=n:=by omega
   have HE2:Hid (decide ((0:Int)≤(-1:Int))=B):=Lib.hid (by
    have:=hE.out
    rw [List.take_of_length_le (by have:=HN.out;omega)] at this
    rw [HB.out,this]
    rfl)
   go_wp2_with fail
   go_ret
   exact⟨_,rfl,⟨by omega,by omega⟩,HE2.out,kr⟩
set_option maxRecDepth 100000 in
theorem containsU_H (lb:Array Value) (p:Uni→Bool) (l:List Uni) (v:Value) (W1 w:World) (HP:∀ x ∈ l,∀ w,Kp W1 w→Calls Tryz.prog 267 (#[ux x.s x.k x.a x.t]++lb) w fun e w'=>e=.returned (.bool (p x))∧Kp w w')
  (hk:Kp W1 w) (hr:RdU w v l) (hl:l.length≤1048576) :
  Calls Tryz.prog 266 #[v,.func (.func 267) #[] lb] w fun e w'=>e=.returned (.bool (l.any p))∧Kp w w':=by
 have C1:=Lib.hid (indexU_H lb p l v W1 w HP hk hr hl)
 generalize l.any p=B at C1 ⊢
 clear HP hk hr
 go_enter Tryz.func266,Tryz.ntmps266
 go_wp2_with fail
 refine C1.out.mono ?_
 rintro e1 w1 ⟨R,rfl,hR,hB,k1⟩
 have HB:=Lib.hid hB
 clear hB
 go_wp2_with fail
 go_ret
 exact⟨ret_bool HB.out,k1⟩
set_option maxRecDepth 100000 in
set_option maxHeartbeats 4000000 in
theorem has_zone (At Ak:Option Addr) (nt nk ct ck:Nat) (l:List Ter) (m:List Knd) (a b c d e W H:Int) (x r y:Value) (lt lr ld:List Int) (T Z:Int) (u:Value) (us:List Uni) (sd i:Int) (w:World) (ht:Tab w) (hB:BrdAt w At Ak nt nk l m x r y lt lr ld) (hS:StaAt w u us) (hok:brdOk ⟨l,m,a,b,c,d,e⟩ W H lt lr ld=true) (hst:staOk ⟨l,m,a,b,c,d,e⟩ W H lt T Z us=true) (hi:onI W H i=true) :
  Calls Tryz.prog 238 #[.agg #[.slice At nt ct,.slice Ak nk ck,.int .i64 a,.int .i64 b,.int .i64 c,.int .i64 d,.int .i64 e,.int .i64 W,.int .i64 H,x,r,y,.int .i64 T,.int .i64 Z,u,.int .i64 sd],.int .i64 i] w fun e' w'=>e'=.returned (.bool (zonB l m lt lr ld W us sd i))∧Kp w w':=by
 have KA:Kp w ((w.alloc (.cells #[.slice At nt ct,.slice Ak nk ck,.int .i64 a,.int .i64 b,.int .i64 c,.int .i64 d,.int .i64 e,.int .i64 W,.int .i64 H,x,r,y,.int .i64 T,.int .i64 Z,u,.int .i64 sd] 289)).alloc (.cells #[.int .i64 i] 3)):=((Kp.refl w).alloc _).alloc _
 have s0:ZonAt ((w.alloc (.cells #[.slice At nt ct,.slice Ak nk ck,.int .i64 a,.int .i64 b,.int .i64 c,.int .i64 d,.int .i64 e,.int .i64 W,.int .i64 H,x,r,y,.int .i64 T,.int .i64 Z,u,.int .i64 sd] 289)).alloc (.cells #[.int .i64 i] 3)) w.heap.size At Ak nt nk ct ck a b c d e W H x r y T Z u sd:=⟨by simp [go_sem],by simp [go_sem],by simp [go_sem],by simp [go_sem],by simp [go_sem],by simp [go_sem],by simp [go_sem],by simp [go_sem],by simp [go_sem],by simp [go_sem],by simp [go_sem],by simp [go_sem],by simp [go_sem],by simp [go_sem],by simp [go_sem],by simp [go_sem]⟩
 have c0:((w.alloc (.cells #[.slice At nt ct,.slice Ak nk ck,.int .i64 a,.int .i64 b,.int .i64 c,.int .i64 d,.int .i64 e,.int .i64 W,.int .i64 H,x,r,y,.int .i64 T,.int .i64 Z,u,.int .i64 sd] 289)).alloc (.cells #[.int .i64 i] 3)).cell? ⟨w.heap.size+1,0,none⟩=some (.int .i64 i):=by simp [go_sem]
 have C1:=Lib.hid (containsU_H #[.pointer (some ⟨w.heap.size,0,none⟩),.pointer (some ⟨w.heap.size+1,0,none⟩)] (srcB l m lt lr ld W sd i) us u ((w.alloc (.cells #[.slice At nt ct,.slice Ak nk ck,.int .i64 a,.int .i64 b,.int .i64 c,.int .i64 d,.int .i64 e,.int .i64 W,.int .i64 H,x,r,y,.int .i64 T,.int .i64 Z,u,.int .i64 sd] 289)).alloc (.cells #[.int .i64 i] 3)) ((w.alloc (.cells #[.slice At nt ct,.slice Ak nk ck,.int .i64 a,.int .i64 b,.int .i64 c,.int .i64 d,.int .i64 e,.int .i64 W,.int .i64 H,x,r,y,.int .i64 T,.int .i64 Z,u,.int .i64 sd] 289)).alloc (.cells #[.int .i64 i] 3)) (fun z hz w' k'=>hasClo_any At Ak nt nk ct ck l m a b c d e W H x r y lt lr ld T Z u us w.heap.size (w.heap.size+1) sd i z w' (ht.keep (KA.trans k')) (hB.keep (KA.trans k')) hok hst hi hz (s0.keep k') (k'.cell c0)) (Kp.refl _) (hS.keep KA).rd hS.b)
 have HE:Hid (us.any (srcB l m lt lr ld W sd i)=zonB l m lt lr ld W us sd i):=Lib.hid rfl
 rw [HE.out] at C1
 generalize zonB l m lt lr ld W us sd i=R at C1 ⊢
 clear ht hB hS hok hst hi HE
 obtain⟨z0,z1,z2,z3,z4,z5,z6,z7,z8,z9,z10,z11,z12,z13,z14,z15⟩:=s0
 go_enter Tryz.func238,Tryz.ntmps238
 go_wp2_with fail
 refine C1.out.mono ?_
 rintro e1 w1 ⟨rfl,k1⟩
 go_wp2_with fail
 go_ret
 exact⟨rfl,KA.trans k1⟩
end Go.Proofs.YtacgknllagdkoaaGreatDoor
