/-
 Texts of this seat in one module: UnI.
-/
import Derived.Test.YtacgknllagdkoaaGreatDoorQj
import Derived.Test.YtacgknllagdkoaaGreatDoorQm
/-
 The program's functions on a unit: whether it is on the map, what it is with steps less, whether it is valid for a board. Nothing that was there is changed. The named variables hold what the program's text lays.
-/
namespace Go.Proofs.YtacgknllagdkoaaGreatDoor
open Go.RowKit
theorem keepu18 {W0 w w1:World} {p0 p1 p2 p3 p4 p5 p6 p7 p8 p9 p10 p11 p12 p13 p14 p15 p16 p17:Addr} {v0 v1 v2 v3 v4 v5 v6 v7 v8 v9 v10 v11 v12 v13 v14 v15 v16 v17:Value} (k:Kp w w1) (h:w.cell? p0=some v0∧w.cell? p1=some v1∧w.cell? p2=some v2∧w.cell? p3=some v3∧w.cell? p4=some v4∧w.cell? p5=some v5∧w.cell? p6=some v6∧w.cell? p7=some v7∧w.cell? p8=some v8∧w.cell? p9=some v9∧w.cell? p10=some v10∧w.cell? p11=some v11∧w.cell? p12=some v12∧w.cell? p13=some v13∧w.cell? p14=some v14∧w.cell? p15=some v15∧w.cell? p16=some v16∧w.cell? p17=some v17∧Kp W0 w):w1.cell? p0=some v0∧w1.cell? p1=some v1∧w1.cell? p2=some v2∧w1.cell? p3=some v3∧w1.cell? p4=some v4∧w1.cell? p5=some v5∧w1.cell? p6=some v6∧w1.cell? p7=some v7∧w1.cell? p8=some v8∧w1.cell? p9=some v9∧w1.cell? p10=some v10∧w1.cell? p11=some v11∧w1.cell? p12=some v12∧w1.cell? p13=some v13∧w1.cell? p14=some v14∧w1.cell? p15=some v15∧w1.cell? p16=some v16∧w1.cell? p17=some v17∧Kp W0 w1 :=
 ⟨k.cell h.1,k.cell h.2.1,k.cell h.2.2.1,k.cell h.2.2.2.1,k.cell h.2.2.2.2.1,k.cell h.2.2.2.2.2.1,k.cell h.2.2.2.2.2.2.1,k.cell h.2.2.2.2.2.2.2.1,k.cell h.2.2.2.2.2.2.2.2.1,k.cell h.2.2.2.2.2.2.2.2.2.1,k.cell h.2.2.2.2.2.2.2.2.2.2.1,k.cell h.2.2.2.2.2.2.2.2.2.2.2.1,k.cell h.2.2.2.2.2.2.2.2.2.2.2.2.1,k.cell h.2.2.2.2.2.2.2.2.2.2.2.2.2.1,k.cell h.2.2.2.2.2.2.2.2.2.2.2.2.2.2.1,k.cell h.2.2.2.2.2.2.2.2.2.2.2.2.2.2.2.1,k.cell h.2.2.2.2.2.2.2.2.2.2.2.2.2.2.2.2.1,k.cell h.2.2.2.2.2.2.2.2.2.2.2.2.2.2.2.2.2.1,h.2.2.2.2.2.2.2.2.2.2.2.2.2.2.2.2.2.2.trans k⟩
theorem drewu18 {W0 w:World} {p0 p1 p2 p3 p4 p5 p6 p7 p8 p9 p10 p11 p12 p13 p14 p15 p16 p17:Addr} {v0 v1 v2 v3 v4 v5 v6 v7 v8 v9 v10 v11 v12 v13 v14 v15 v16 v17:Value} (h:w.cell? p0=some v0∧w.cell? p1=some v1∧w.cell? p2=some v2∧w.cell? p3=some v3∧w.cell? p4=some v4∧w.cell? p5=some v5∧w.cell? p6=some v6∧w.cell? p7=some v7∧w.cell? p8=some v8∧w.cell? p9=some v9∧w.cell? p10=some v10∧w.cell? p11=some v11∧w.cell? p12=some v12∧w.cell? p13=some v13∧w.cell? p14=some v14∧w.cell? p15=some v15∧w.cell? p16=some v16∧w.cell? p17=some v17∧Kp W0 w):w.drew.cell? p0=some v0∧w.drew.cell? p1=some v1∧w.drew.cell? p2=some v2∧w.drew.cell? p3=some v3∧w.drew.cell? p4=some v4∧w.drew.cell? p5=some v5∧w.drew.cell? p6=some v6∧w.drew.cell? p7=some v7∧w.drew.cell? p8=some v8∧w.drew.cell? p9=some v9∧w.drew.cell? p10=some v10∧w.drew.cell? p11=some v11∧w.drew.cell? p12=some v12∧w.drew.cell? p13=some v13∧w.drew.cell? p14=some v14∧w.drew.cell? p15=some v15∧w.drew.cell? p16=some v16∧w.drew.cell? p17=some v17∧Kp W0 w.drew :=
 ⟨h.1,h.2.1,h.2.2.1,h.2.2.2.1,h.2.2.2.2.1,h.2.2.2.2.2.1,h.2.2.2.2.2.2.1,h.2.2.2.2.2.2.2.1,h.2.2.2.2.2.2.2.2.1,h.2.2.2.2.2.2.2.2.2.1,h.2.2.2.2.2.2.2.2.2.2.1,h.2.2.2.2.2.2.2.2.2.2.2.1,h.2.2.2.2.2.2.2.2.2.2.2.2.1,h.2.2.2.2.2.2.2.2.2.2.2.2.2.1,h.2.2.2.2.2.2.2.2.2.2.2.2.2.2.1,h.2.2.2.2.2.2.2.2.2.2.2.2.2.2.2.1,h.2.2.2.2.2.2.2.2.2.2.2.2.2.2.2.2.1,h.2.2.2.2.2.2.2.2.2.2.2.2.2.2.2.2.2.1,h.2.2.2.2.2.2.2.2.2.2.2.2.2.2.2.2.2.2.drew⟩
theorem keepu19 {W0 w w1:World} {p0 p1 p2 p3 p4 p5 p6 p7 p8 p9 p10 p11 p12 p13 p14 p15 p16 p17 p18:Addr} {v0 v1 v2 v3 v4 v5 v6 v7 v8 v9 v10 v11 v12 v13 v14 v15 v16 v17 v18:Value} (k:Kp w w1) (h:w.cell? p0=some v0∧w.cell? p1=some v1∧w.cell? p2=some v2∧w.cell? p3=some v3∧w.cell? p4=some v4∧w.cell? p5=some v5∧w.cell? p6=some v6∧w.cell? p7=some v7∧w.cell? p8=some v8∧w.cell? p9=some v9∧w.cell? p10=some v10∧w.cell? p11=some v11∧w.cell? p12=some v12∧w.cell? p13=some v13∧w.cell? p14=some v14∧w.cell? p15=some v15∧w.cell? p16=some v16∧w.cell? p17=some v17∧w.cell? p18=some v18∧Kp W0 w):w1.cell? p0=some v0∧w1.cell? p1=some v1∧w1.cell? p2=some v2∧w1.cell? p3=some v3∧w1.cell? p4=some v4∧w1.cell? p5=some v5∧w1.cell? p6=some v6∧w1.cell? p7=some v7∧w1.cell? p8=some v8∧w1.cell? p9=some v9∧w1.cell? p10=some v10∧w1.cell? p11=some v11∧w1.cell? p12=some v12∧w1.cell? p13=some v13∧w1.cell? p14=some v14∧w1.cell? p15=some v15∧w1.cell? p16=some v16∧w1.cell? p17=some v17∧w1.cell? p18=some v18∧Kp W0 w1 :=
 ⟨k.cell h.1,k.cell h.2.1,k.cell h.2.2.1,k.cell h.2.2.2.1,k.cell h.2.2.2.2.1,k.cell h.2.2.2.2.2.1,k.cell h.2.2.2.2.2.2.1,k.cell h.2.2.2.2.2.2.2.1,k.cell h.2.2.2.2.2.2.2.2.1,k.cell h.2.2.2.2.2.2.2.2.2.1,k.cell h.2.2.2.2.2.2.2.2.2.2.1,k.cell h.2.2.2.2.2.2.2.2.2.2.2.1,k.cell h.2.2.2.2.2.2.2.2.2.2.2.2.1,k.cell h.2.2.2.2.2.2.2.2.2.2.2.2.2.1,k.cell h.2.2.2.2.2.2.2.2.2.2.2.2.2.2.1,k.cell h.2.2.2.2.2.2.2.2.2.2.2.2.2.2.2.1,k.cell h.2.2.2.2.2.2.2.2.2.2.2.2.2.2.2.2.1,k.cell h.2.2.2.2.2.2.2.2.2.2.2.2.2.2.2.2.2.1,k.cell h.2.2.2.2.2.2.2.2.2.2.2.2.2.2.2.2.2.2.1,h.2.2.2.2.2.2.2.2.2.2.2.2.2.2.2.2.2.2.2.trans k⟩
theorem drewu19 {W0 w:World} {p0 p1 p2 p3 p4 p5 p6 p7 p8 p9 p10 p11 p12 p13 p14 p15 p16 p17 p18:Addr} {v0 v1 v2 v3 v4 v5 v6 v7 v8 v9 v10 v11 v12 v13 v14 v15 v16 v17 v18:Value} (h:w.cell? p0=some v0∧w.cell? p1=some v1∧w.cell? p2=some v2∧w.cell? p3=some v3∧w.cell? p4=some v4∧w.cell? p5=some v5∧w.cell? p6=some v6∧w.cell? p7=some v7∧w.cell? p8=some v8∧w.cell? p9=some v9∧w.cell? p10=some v10∧w.cell? p11=some v11∧w.cell? p12=some v12∧w.cell? p13=some v13∧w.cell? p14=some v14∧w.cell? p15=some v15∧w.cell? p16=some v16∧w.cell? p17=some v17∧w.cell? p18=some v18∧Kp W0 w):w.drew.cell? p0=some v0∧w.drew.cell? p1=some v1∧w.drew.cell? p2=some v2∧w.drew.cell? p3=some v3∧w.drew.cell? p4=some v4∧w.drew.cell? p5=some v5∧w.drew.cell? p6=some v6∧w.drew.cell? p7=some v7∧w.drew.cell? p8=some v8∧w.drew.cell? p9=some v9∧w.drew.cell? p10=some v10∧w.drew.cell? p11=some v11∧w.drew.cell? p12=some v12∧w.drew.cell? p13=some v13∧w.drew.cell? p14=some v14∧w.drew.cell? p15=some v15∧w.drew.cell? p16=some v16∧w.drew.cell? p17=some v17∧w.drew.cell? p18=some v18∧Kp W0 w.drew :=
 ⟨h.1,h.2.1,h.2.2.1,h.2.2.2.1,h.2.2.2.2.1,h.2.2.2.2.2.1,h.2.2.2.2.2.2.1,h.2.2.2.2.2.2.2.1,h.2.2.2.2.2.2.2.2.1,h.2.2.2.2.2.2.2.2.2.1,h.2.2.2.2.2.2.2.2.2.2.1,h.2.2.2.2.2.2.2.2.2.2.2.1,h.2.2.2.2.2.2.2.2.2.2.2.2.1,h.2.2.2.2.2.2.2.2.2.2.2.2.2.1,h.2.2.2.2.2.2.2.2.2.2.2.2.2.2.1,h.2.2.2.2.2.2.2.2.2.2.2.2.2.2.2.1,h.2.2.2.2.2.2.2.2.2.2.2.2.2.2.2.2.1,h.2.2.2.2.2.2.2.2.2.2.2.2.2.2.2.2.2.1,h.2.2.2.2.2.2.2.2.2.2.2.2.2.2.2.2.2.2.1,h.2.2.2.2.2.2.2.2.2.2.2.2.2.2.2.2.2.2.2.drew⟩
/-- The program's ranges of sides, weathers and numbers of units, as its text lays them. -/
structure SpU (w:World):Prop where
 side:SpanAt w 0 0 1
 weather:SpanAt w 8 0 2
 units:SpanAt w 6 0 12
theorem SpU.keep {w w':World} (h:SpU w) (k:Kp w w'):SpU w':=⟨⟨k.cell h.side.1,k.cell h.side.2⟩,⟨k.cell h.weather.1,k.cell h.weather.2⟩,⟨k.cell h.units.1,k.cell h.units.2⟩⟩
theorem onMap_no (s k t:Int) (w:World) :
  Calls Tryz.prog 108 #[ux s k (-1) t] w fun e w'=>e=.returned (.bool false)∧Kp w w':=by
 go_enter Tryz.func108,Tryz.ntmps108
 go_wp2
 go_ret
 exact⟨rfl,(Kp.refl _).alloc _⟩
theorem onMap_yes (s k a t:Int) (w:World) (h:a ≠ -1) :
  Calls Tryz.prog 108 #[ux s k a t] w fun e w'=>e=.returned (.bool true)∧Kp w w':=by
 have hd:(a != -1)=true:=by simpa using h
 clear h
 go_enter Tryz.func108,Tryz.ntmps108
 go_wp2
 go_ret
 exact⟨rfl,(Kp.refl _).alloc _⟩
set_option maxRecDepth 100000 in
theorem losing_lo (s k a t n:Int) (w:World) (h1:-9223372036854775808≤t - n) (h2:t - n≤0) :
  Calls Tryz.prog 110 #[ux s k a t,.int .i64 n] w fun e w'=>e=.returned (ux s k (-1) 0)∧Kp w w':=by
 have e0:IntKind.i64.wrap (t - n)=t - n:=IntWalk.i64_in _ (by omega)
 rcases Int.lt_or_eq_of_le h2 with h | h
 all_goals
  clear h1 h2
  go_enter Tryz.func110,Tryz.ntmps110
  go_wp2
  refine bodyPost_ret (v:=ux s k (-1) 0) (by simp [results,Tryz.results110,go_sem]) rfl ⟨rfl,?_⟩
  exact((Kp.refl _).alloc _).alloc _
set_option maxRecDepth 100000 in
theorem losing_hi (s k a t n:Int) (w:World) (h1:t - n≤9223372036854775807) (h2:0<t - n) :
  Calls Tryz.prog 110 #[ux s k a t,.int .i64 n] w fun e w'=>e=.returned (ux s k a (t - n))∧Kp w w':=by
 have e0:IntKind.i64.wrap (t - n)=t - n:=IntWalk.i64_in _ (by omega)
 have h3:¬ t - n<0:=by omega
 have h4:(t - n == 0)=false:=by simp;omega
 have h5:¬ t - n=0:=by omega
 clear h1
 go_enter Tryz.func110,Tryz.ntmps110
 go_wp2
 refine bodyPost_ret (v:=ux s k a (t - n)) (by simp [results,Tryz.results110,go_sem]) rfl ⟨rfl,?_⟩
 exact((Kp.refl _).alloc _).alloc _
theorem isStack_any (t k:Value) (a b c d e c0 c1:Int) (w:World) (h0:0≤c0) (h1:0≤c1) :
  Calls Tryz.prog 185 #[rv t k a b c d e,.agg #[.int .i64 c0,.int .i64 c1]] w fun e' w'=>e'=.returned (.bool (stkP a c0 c1))∧Kp w w':=by
 by_cases z0:c0=0
 ·subst z0
  by_cases z1:c1=0
  ·subst z1
   clear h0 h1
   go_enter Tryz.func185,Tryz.ntmps185
   go_wp2
   go_ret
   exact⟨ret_bool (by simp [stkP]),((Kp.refl _).alloc _).alloc _⟩
  ·have z2:0<c1:=by omega
   clear h0 h1 z1
   go_enter Tryz.func185,Tryz.ntmps185
   go_wp2
   go_ret
   exact⟨ret_bool (by rw [Bool.eq_iff_iff];simp [stkP];omega),((Kp.refl _).alloc _).alloc _⟩
 ·by_cases z1:c1=0
  ·subst z1
   have z2:0<c0:=by omega
   clear h0 h1 z0
   go_enter Tryz.func185,Tryz.ntmps185
   go_wp2
   go_ret
   exact⟨ret_bool (by rw [Bool.eq_iff_iff];simp [stkP];omega),((Kp.refl _).alloc _).alloc _⟩
  ·have d0:(c0 == 0)=false:=by simpa using z0
   have d1:(c1 == 0)=false:=by simpa using z1
   by_cases z2:c1<c0
   all_goals
    go_enter Tryz.func185,Tryz.ntmps185
    go_wp2
    go_ret
    exact⟨ret_bool (by simp [stkP];omega),((Kp.refl _).alloc _).alloc _⟩
theorem uni_get {us:List Uni} {N q:Nat} (hN:us.length=N) (hq:q<N):∃ s k a t,us[q]?=some ⟨s,k,a,t⟩:=⟨_,_,_,_,List.getElem?_eq_getElem (by omega)⟩
abbrev Lv (w:World) (b:Nat) (v0 v1:Value):Prop:=(w.cell? ⟨b,0,none⟩=some v0∧w.frozen? ⟨b,0,none⟩=false)∧(w.cell? ⟨b,1,none⟩=some v1∧w.frozen? ⟨b,1,none⟩=false)
set_option maxRecDepth 100000 in
theorem countsAt_any (T Z:Int) (u:Value) (us:List Uni) (i:Int) (w:World) (h:StaAt w u us) (hs:∀ x ∈ us,x.s=0∨x.s=1) (hn:us.length≤12) :
  Calls Tryz.prog 186 #[sv T Z u,.int .i64 i] w fun e w'=>e=.returned (.agg #[.int .i64 (cntS us i 0 us.length),.int .i64 (cntS us i 1 us.length)])∧Kp w w':=by
 obtain⟨A,cp,rfl,hA⟩:=h.rd
 obtain⟨N,hN⟩:∃ N,us.length=N:=⟨_,rfl⟩
 have HN:=Lib.hid hN
 rw [hN] at hA hn ⊢
 have HA:=Lib.hid hA
 have HS:=Lib.hid hs
 clear h hA hN hs
 have L0:Lv (((w.alloc (.cells #[.int .i64 T,.int .i64 Z,.slice A N cp] 51)).alloc (.cells #[.int .i64 0,.int .i64 0] 235)).alloc (.cells #[.int .i64 0,.int .i64 0] 235)) (w.heap.size+1) (.int .i64 0) (.int .i64 0):=⟨⟨by simp [go_sem],by simp [go_sem]⟩,⟨by simp [go_sem],by simp [go_sem]⟩⟩
 have M0:Lv (((w.alloc (.cells #[.int .i64 T,.int .i64 Z,.slice A N cp] 51)).alloc (.cells #[.int .i64 0,.int .i64 0] 235)).alloc (.cells #[.int .i64 0,.int .i64 0] 235)) (w.heap.size+1+1) (.int .i64 0) (.int .i64 0):=⟨⟨by simp [go_sem],by simp [go_sem]⟩,⟨by simp [go_sem],by simp [go_sem]⟩⟩
 have K0:Kp w (((w.alloc (.cells #[.int .i64 T,.int .i64 Z,.slice A N cp] 51)).alloc (.cells #[.int .i64 0,.int .i64 0] 235)).alloc (.cells #[.int .i64 0,.int .i64 0] 235)):=(((Kp.refl w).alloc _).alloc _).alloc _
 go_enter Tryz.func186,Tryz.ntmps186
 go_wp2_with fail
 go_loopw [11] (fun iq wx=>∃ q:Nat,q≤N∧iq=.int .i64 q∧Lv wx (w.heap.size+1) (.int .i64 0) (.int .i64 0)∧Lv wx (w.heap.size+1+1) (.int .i64 (cntS us i 0 q)) (.int .i64 (cntS us i 1 q))∧Kp w wx) (fun iq _=>N - (intOf iq).toNat)
 case atStart=>exact⟨0,by omega,rfl,L0,M0,K0⟩
 case round =>
  clear L0 M0 K0
  obtain⟨q,hq,rfl,lr,mr,kr⟩:=hrel
  have hz:=cell_lt mr.1.1
  have hz2:=cell_lt lr.1.1
  have b0:=cntS_bd us i 0 q
  have b1:=cntS_bd us i 1 q
  by_cases hlt:q<N
  ·have hlt':(q:Int)<N:=by omega
   obtain⟨g,off,rfl,hc⟩:=HA.out (by omega)
   obtain⟨sx,kx,ax,tx,hx⟩:=uni_get HN.out hlt
   obtain⟨a0,a1,a2,a3⟩:=(hc q _ hx).keep kr
   have hsd:=HS.out _ (List.mem_of_getElem? hx)
   have E0:=Lib.hid (cntS_step (i:=i) (s:=0) hx)
   have E1:=Lib.hid (cntS_step (i:=i) (s:=1) hx)
   simp only at a0 a1 a2 a3 hsd E0 E1
   clear hc hx
   obtain⟨c0,e0⟩:∃ z,cntS us i 0 q=z:=⟨_,rfl⟩
   obtain⟨c1,e1⟩:∃ z,cntS us i 1 q=z:=⟨_,rfl⟩
   rw [e0] at b0 mr E0
   rw [e1] at b1 mr E1
   clear e0 e1
   by_cases m:ax=i
   ·subst m
    rcases hsd with rfl | rfl
    ·have X0:Hid (cntS us ax 0 (q+1)=c0+1):=Lib.hid (E0.out.trans (if_pos ⟨rfl,rfl⟩))
     have X1:Hid (cntS us ax 1 (q+1)=c1):=Lib.hid (E1.out.trans (if_neg (by omega)))
     go_wp2_with fail
     go_roundw
     case rel =>
      refine⟨q+1,by omega,by go_num,?_,?_,(kr.setCell (by simp <;> omega) _).alloc _⟩
      ·exact⟨⟨by simp [go_sem, *],by simp [go_sem, *]⟩,⟨by simp [go_sem, *],by simp [go_sem, *]⟩⟩
      ·rw [X0.out,X1.out]
       exact⟨⟨by simp [go_sem, *],by simp [go_sem, *]⟩,⟨by simp [go_sem, *],by simp [go_sem, *]⟩⟩
     case measure=>simp [intOf];omega
    ·have X0:Hid (cntS us ax 0 (q+1)=c0):=Lib.hid (E0.out.trans (if_neg (by omega)))
     have X1:Hid (cntS us ax 1 (q+1)=c1+1):=Lib.hid (E1.out.trans (if_pos ⟨rfl,rfl⟩))
     go_wp2_with fail
     go_roundw
     case rel =>
      refine⟨q+1,by omega,by go_num,?_,?_,(kr.setCell (by simp <;> omega) _).alloc _⟩
      ·exact⟨⟨by simp [go_sem, *],by simp [go_sem, *]⟩,⟨by simp [go_sem, *],by simp [go_sem, *]⟩⟩
      ·rw [X0.out,X1.out]
       exact⟨⟨by simp [go_sem, *],by simp [go_sem, *]⟩,⟨by simp [go_sem, *],by simp [go_sem, *]⟩⟩
     case measure=>simp [intOf];omega
   ·have hd:(ax == i)=false:=by simpa using m
    have X0:Hid (cntS us i 0 (q+1)=c0):=Lib.hid (E0.out.trans (if_neg (by omega)))
    have X1:Hid (cntS us i 1 (q+1)=c1):=Lib.hid (E1.out.trans (if_neg (by omega)))
    go_wp2_with fail
    go_roundw
    case rel =>
     refine⟨q+1,by omega,by go_num,?_,?_,kr.alloc _⟩
     ·exact⟨⟨by simp [go_sem, *],by simp [go_sem, *]⟩,⟨by simp [go_sem, *],by simp [go_sem, *]⟩⟩
     ·rw [X0.out,X1.out]
      exact⟨⟨by simp [go_sem, *],by simp [go_sem, *]⟩,⟨by simp [go_sem, *],by simp [go_sem, *]⟩⟩
    case measure=>simp [intOf];omega
  ·obtain rfl:q=N:=by omega
   obtain⟨c0,e0⟩:∃ z,cntS us i 0 q=z:=⟨_,rfl⟩
   obtain⟨c1,e1⟩:∃ z,cntS us i 1 q=z:=⟨_,rfl⟩
   rw [e0] at b0 mr
   rw [e1] at b1 mr
   have E0:=Lib.hid e0
   have E1:=Lib.hid e1
   clear e0 e1
   go_wp2_with fail
   refine bodyPost_ret (v:=.agg #[.int .i64 c0,.int .i64 c1]) (by simp [results,Tryz.results186,go_sem, *]) rfl ⟨by rw [E0.out,E1.out],?_⟩
   exact(kr.setCell (by simp <;> omega) _).setCell (by simp <;> omega) _
set_option maxRecDepth 100000 in
set_option maxHeartbeats 4000000 in
theorem isUnit_no1 (At Ak:Option Addr) (nt nk ct ck:Nat) (a b c d e W H:Int) (x r y:Value) (sx kx ax tx:Int) (w:World) (hu:SpU w) (h1:spB 0 1 sx=false) :
  Calls Tryz.prog 184 #[bv (.slice At nt ct) (.slice Ak nk ck) a b c d e W H x r y,ux sx kx ax tx] w fun e' w'=>e'=.returned (.bool false)∧Kp w w':=by
 have KA:Kp w ((w.alloc (.cells #[.slice At nt ct,.slice Ak nk ck,.int .i64 a,.int .i64 b,.int .i64 c,.int .i64 d,.int .i64 e,.int .i64 W,.int .i64 H,x,r,y] 47)).alloc (.cells #[.int .i64 sx,.int .i64 kx,.int .i64 ax,.int .i64 tx] 152)):=((Kp.refl w).alloc _).alloc _
 have s0:cb12 ((w.alloc (.cells #[.slice At nt ct,.slice Ak nk ck,.int .i64 a,.int .i64 b,.int .i64 c,.int .i64 d,.int .i64 e,.int .i64 W,.int .i64 H,x,r,y] 47)).alloc (.cells #[.int .i64 sx,.int .i64 kx,.int .i64 ax,.int .i64 tx] 152)) (w.heap.size) (.slice At nt ct) (.slice Ak nk ck) (.int .i64 a) (.int .i64 b) (.int .i64 c) (.int .i64 d) (.int .i64 e) (.int .i64 W) (.int .i64 H) (x) (r) (y) (cb4 ((w.alloc (.cells #[.slice At nt ct,.slice Ak nk ck,.int .i64 a,.int .i64 b,.int .i64 c,.int .i64 d,.int .i64 e,.int .i64 W,.int .i64 H,x,r,y] 47)).alloc (.cells #[.int .i64 sx,.int .i64 kx,.int .i64 ax,.int .i64 tx] 152)) (w.heap.size+1) (.int .i64 sx) (.int .i64 kx) (.int .i64 ax) (.int .i64 tx) (cb2 ((w.alloc (.cells #[.slice At nt ct,.slice Ak nk ck,.int .i64 a,.int .i64 b,.int .i64 c,.int .i64 d,.int .i64 e,.int .i64 W,.int .i64 H,x,r,y] 47)).alloc (.cells #[.int .i64 sx,.int .i64 kx,.int .i64 ax,.int .i64 tx] 152)) 0 (.int .i64 0) (.int .i64 1) (Kp w ((w.alloc (.cells #[.slice At nt ct,.slice Ak nk ck,.int .i64 a,.int .i64 b,.int .i64 c,.int .i64 d,.int .i64 e,.int .i64 W,.int .i64 H,x,r,y] 47)).alloc (.cells #[.int .i64 sx,.int .i64 kx,.int .i64 ax,.int .i64 tx] 152))))):=⟨by simp [go_sem],by simp [go_sem],by simp [go_sem],by simp [go_sem],by simp [go_sem],by simp [go_sem],by simp [go_sem],by simp [go_sem],by simp [go_sem],by simp [go_sem],by simp [go_sem],by simp [go_sem],by simp [go_sem],by simp [go_sem],by simp [go_sem],by simp [go_sem],KA.cell hu.side.1,KA.cell hu.side.2,KA⟩
 have CH:Hid (∀ w,Calls Tryz.prog 69 #[.agg #[.int .i64 0,.int .i64 1],.int .i64 sx] w fun e w'=>e=.returned (.bool false)∧Kp w w'):=Lib.hid fun w=>by
  have:=has_any 0 1 sx w
  rw [h1] at this
  exact this
 clear hu h1 KA
 go_enter Tryz.func184,Tryz.ntmps184
 go_wp2_with fail
 generalize (w.alloc (.cells #[.slice At nt ct,.slice Ak nk ck,.int .i64 a,.int .i64 b,.int .i64 c,.int .i64 d,.int .i64 e,.int .i64 W,.int .i64 H,x,r,y] 47)).alloc (.cells #[.int .i64 sx,.int .i64 kx,.int .i64 ax,.int .i64 tx] 152)=W0 at *
 have s1:=drewu18 s0
 refine wp_region_held_drew (S:=(fun w'=>cb12 w' (w.heap.size) (.slice At nt ct) (.slice Ak nk ck) (.int .i64 a) (.int .i64 b) (.int .i64 c) (.int .i64 d) (.int .i64 e) (.int .i64 W) (.int .i64 H) (x) (r) (y) (cb4 w' (w.heap.size+1) (.int .i64 sx) (.int .i64 kx) (.int .i64 ax) (.int .i64 tx) (cb2 w' 0 (.int .i64 0) (.int .i64 1) (Kp w w'))))) (by kernel_rfl) ?_ (fun hHeld=>?_)
 ·exact s1
 refine tk 0 ⟨some 5,_,_,_,_,_⟩ ?_ rfl (by kernel_rfl) (fun _ _ _ h=>h) (by rfl) ?_ (by assumption) ?_
 rotate_left
 ·intro w hSw;(try dsimp only at hSw);go_simp;(all_goals with_reducible rfl)
 simp only [Act.put,sA,sB,sC]
 refine tk 1 ⟨some 6,_,_,_,_,_⟩ ?_ rfl (by kernel_rfl) (fun _ _ _ h=>h) (by rfl) ?_ (by assumption) ?_
 rotate_left
 ·intro w hSw;(try dsimp only at hSw);go_simp;(all_goals with_reducible rfl)
 simp only [Act.put,sA,sB,sC]
 refine tk 2 ⟨some 7,_,_,_,_,_⟩ ?_ rfl (by kernel_rfl) (fun _ _ _ h=>h) (by rfl) ?_ (by assumption) ?_
 rotate_left
 ·intro w hSw;(try dsimp only at hSw);go_simp;(all_goals with_reducible rfl)
 simp only [Act.put,sA,sB,sC]
 refine wpAnyH_ready (rs:=[3]) (by kernel_rfl) (by simp) ?_
 refine AllReadyH.cons (o:=⟨some 8,_,_,_,_,_⟩) rfl (fun K hK=>?_) AllReadyH.nil
 go_simp
 refine(CH.out _).mono ?_;rintro e1 w1 ⟨rfl,k1⟩;have s2:=keepu18 k1 s1
 go_wp2_with fail
 refine hK.out _ _ ?_ (fun hHeld=>?_)
 ·(try dsimp only);(first | assumption | exact s2 | exact s1)
 clear hK K
 try simp only [Act.put,sA,sB,sC]
 refine tk 4 ⟨some 9,_,_,_,_,_⟩ ?_ rfl (by kernel_rfl) (fun _ _ _ h=>h) (by rfl) ?_ (by assumption) ?_
 rotate_left
 ·intro w hSw;(try dsimp only at hSw);go_simp;(all_goals with_reducible rfl)
 simp only [Act.put,sA,sB,sC]
 refine tk 5 ⟨some 10,_,_,_,_,_⟩ ?_ rfl (by kernel_rfl) (fun _ _ _ h=>h) (by rfl) ?_ (by assumption) ?_
 rotate_left
 ·intro w hSw;(try dsimp only at hSw);go_simp;(all_goals with_reducible rfl)
 simp only [Act.put,sA,sB,sC]
 refine tn 6 ⟨some 11,_,_,_,_,_⟩ rfl (by kernel_rfl) (fun _ _ _ h=>h) (by rfl) (by assumption) ?_
 simp only [Act.put,sA,sB,sC]
 refine tn 7 ⟨some 12,_,_,_,_,_⟩ rfl (by kernel_rfl) (fun _ _ _ h=>h) (by rfl) (by assumption) ?_
 simp only [Act.put,sA,sB,sC]
 refine tn 8 ⟨some 13,_,_,_,_,_⟩ rfl (by kernel_rfl) (fun _ _ _ h=>h) (by rfl) (by assumption) ?_
 simp only [Act.put,sA,sB,sC]
 refine tn 9 ⟨some 14,_,_,_,_,_⟩ rfl (by kernel_rfl) (fun _ _ _ h=>h) (by rfl) (by assumption) ?_
 simp only [Act.put,sA,sB,sC]
 refine wpAnyH_ready (rs:=[10]) (by kernel_rfl) (by simp) ?_
 refine AllReadyH.cons (o:=⟨some 15,_,_,_,_,_⟩) rfl (fun K hK=>?_) AllReadyH.nil
 go_simp
 refine hK.out _ _ ?_ (fun hHeld=>?_)
 ·(try dsimp only);(first | assumption | exact s2 | exact s1)
 clear hK K
 try simp only [Act.put,sA,sB,sC]
 refine tn 11 ⟨some 16,_,_,_,_,_⟩ rfl (by kernel_rfl) (fun _ _ _ h=>h) (by rfl) (by assumption) ?_
 simp only [Act.put,sA,sB,sC]
 refine tk 12 ⟨some 17,_,_,_,_,_⟩ ?_ rfl (by kernel_rfl) (fun _ _ _ h=>h) (by rfl) ?_ (by assumption) ?_
 rotate_left
 ·intro w hSw;(try dsimp only at hSw);go_simp;(all_goals with_reducible rfl)
 simp only [Act.put,sA,sB,sC]
 refine tk 13 ⟨some 18,_,_,_,_,_⟩ ?_ rfl (by kernel_rfl) (fun _ _ _ h=>h) (by rfl) ?_ (by assumption) ?_
 rotate_left
 ·intro w hSw;(try dsimp only at hSw);go_simp;(all_goals with_reducible rfl)
 simp only [Act.put,sA,sB,sC]
 refine tn 14 ⟨some 19,_,_,_,_,_⟩ rfl (by kernel_rfl) (fun _ _ _ h=>h) (by rfl) (by assumption) ?_
 simp only [Act.put,sA,sB,sC]
 refine tn 15 ⟨some 20,_,_,_,_,_⟩ rfl (by kernel_rfl) (fun _ _ _ h=>h) (by rfl) (by assumption) ?_
 simp only [Act.put,sA,sB,sC]
 refine tn 16 ⟨some 21,_,_,_,_,_⟩ rfl (by kernel_rfl) (fun _ _ _ h=>h) (by rfl) (by assumption) ?_
 simp only [Act.put,sA,sB,sC]
 refine tn 17 ⟨some 22,_,_,_,_,_⟩ rfl (by kernel_rfl) (fun _ _ _ h=>h) (by rfl) (by assumption) ?_
 simp only [Act.put,sA,sB,sC]
 refine tn 18 ⟨some 23,_,_,_,_,_⟩ rfl (by kernel_rfl) (fun _ _ _ h=>h) (by rfl) (by assumption) ?_
 simp only [Act.put,sA,sB,sC]
 refine tn 19 ⟨some 24,_,_,_,_,_⟩ rfl (by kernel_rfl) (fun _ _ _ h=>h) (by rfl) (by assumption) ?_
 simp only [Act.put,sA,sB,sC]
 refine tn 20 ⟨some 25,_,_,_,_,_⟩ rfl (by kernel_rfl) (fun _ _ _ h=>h) (by rfl) (by assumption) ?_
 simp only [Act.put,sA,sB,sC]
 refine tn 21 ⟨some 26,_,_,_,_,_⟩ rfl (by kernel_rfl) (fun _ _ _ h=>h) (by rfl) (by assumption) ?_
 simp only [Act.put,sA,sB,sC]
 refine tn 22 ⟨some 27,_,_,_,_,_⟩ rfl (by kernel_rfl) (fun _ _ _ h=>h) (by rfl) (by assumption) ?_
 simp only [Act.put,sA,sB,sC]
 refine tn 23 ⟨some 28,_,_,_,_,_⟩ rfl (by kernel_rfl) (fun _ _ _ h=>h) (by rfl) (by assumption) ?_
 simp only [Act.put,sA,sB,sC]
 refine tn 24 ⟨some 29,_,_,_,_,_⟩ rfl (by kernel_rfl) (fun _ _ _ h=>h) (by rfl) (by assumption) ?_
 simp only [Act.put,sA,sB,sC]
 refine tk 25 ⟨some 30,_,_,_,_,_⟩ ?_ rfl (by kernel_rfl) (fun _ _ _ h=>h) (by rfl) ?_ (by assumption) ?_
 rotate_left
 ·intro w hSw;(try dsimp only at hSw);go_simp;(all_goals with_reducible rfl)
 simp only [Act.put,sA,sB,sC]
 refine wpAnyH_done (by kernel_rfl) ?_ _
 go_wp2_with fail
 go_ret
 exact⟨rfl,s2.2.2.2.2.2.2.2.2.2.2.2.2.2.2.2.2.2.2⟩
set_option maxRecDepth 100000 in
set_option maxHeartbeats 4000000 in
theorem isUnit_no2 (At Ak:Option Addr) (nt nk ct ck:Nat) (a b c d e W H:Int) (x r y:Value) (sx kx ax tx:Int) (w:World) (hu:SpU w) (h1:spB 0 1 sx=true) (h2:inB kx nk=false) :
  Calls Tryz.prog 184 #[bv (.slice At nt ct) (.slice Ak nk ck) a b c d e W H x r y,ux sx kx ax tx] w fun e' w'=>e'=.returned (.bool false)∧Kp w w':=by
 have KA:Kp w ((w.alloc (.cells #[.slice At nt ct,.slice Ak nk ck,.int .i64 a,.int .i64 b,.int .i64 c,.int .i64 d,.int .i64 e,.int .i64 W,.int .i64 H,x,r,y] 47)).alloc (.cells #[.int .i64 sx,.int .i64 kx,.int .i64 ax,.int .i64 tx] 152)):=((Kp.refl w).alloc _).alloc _
 have s0:cb12 ((w.alloc (.cells #[.slice At nt ct,.slice Ak nk ck,.int .i64 a,.int .i64 b,.int .i64 c,.int .i64 d,.int .i64 e,.int .i64 W,.int .i64 H,x,r,y] 47)).alloc (.cells #[.int .i64 sx,.int .i64 kx,.int .i64 ax,.int .i64 tx] 152)) (w.heap.size) (.slice At nt ct) (.slice Ak nk ck) (.int .i64 a) (.int .i64 b) (.int .i64 c) (.int .i64 d) (.int .i64 e) (.int .i64 W) (.int .i64 H) (x) (r) (y) (cb4 ((w.alloc (.cells #[.slice At nt ct,.slice Ak nk ck,.int .i64 a,.int .i64 b,.int .i64 c,.int .i64 d,.int .i64 e,.int .i64 W,.int .i64 H,x,r,y] 47)).alloc (.cells #[.int .i64 sx,.int .i64 kx,.int .i64 ax,.int .i64 tx] 152)) (w.heap.size+1) (.int .i64 sx) (.int .i64 kx) (.int .i64 ax) (.int .i64 tx) (cb2 ((w.alloc (.cells #[.slice At nt ct,.slice Ak nk ck,.int .i64 a,.int .i64 b,.int .i64 c,.int .i64 d,.int .i64 e,.int .i64 W,.int .i64 H,x,r,y] 47)).alloc (.cells #[.int .i64 sx,.int .i64 kx,.int .i64 ax,.int .i64 tx] 152)) 0 (.int .i64 0) (.int .i64 1) (Kp w ((w.alloc (.cells #[.slice At nt ct,.slice Ak nk ck,.int .i64 a,.int .i64 b,.int .i64 c,.int .i64 d,.int .i64 e,.int .i64 W,.int .i64 H,x,r,y] 47)).alloc (.cells #[.int .i64 sx,.int .i64 kx,.int .i64 ax,.int .i64 tx] 152))))):=⟨by simp [go_sem],by simp [go_sem],by simp [go_sem],by simp [go_sem],by simp [go_sem],by simp [go_sem],by simp [go_sem],by simp [go_sem],by simp [go_sem],by simp [go_sem],by simp [go_sem],by simp [go_sem],by simp [go_sem],by simp [go_sem],by simp [go_sem],by simp [go_sem],KA.cell hu.side.1,KA.cell hu.side.2,KA⟩
 have CH:Hid (∀ w,Calls Tryz.prog 69 #[.agg #[.int .i64 0,.int .i64 1],.int .i64 sx] w fun e w'=>e=.returned (.bool true)∧Kp w w'):=Lib.hid fun w=>by
  have:=has_any 0 1 sx w
  rw [h1] at this
  exact this
 have CK:Hid (∀ w,Calls Tryz.prog 215 #[rv (.slice At nt ct) (.slice Ak nk ck) a b c d e,.int .i64 kx] w fun e' w'=>e'=.returned (.bool false)∧Kp w w'):=Lib.hid fun w=>by
  have:=isKind_any (.slice At nt ct) Ak nk ck a b c d e kx w
  rw [h2] at this
  exact this
 clear hu h1 h2 KA
 go_enter Tryz.func184,Tryz.ntmps184
 go_wp2_with fail
 generalize (w.alloc (.cells #[.slice At nt ct,.slice Ak nk ck,.int .i64 a,.int .i64 b,.int .i64 c,.int .i64 d,.int .i64 e,.int .i64 W,.int .i64 H,x,r,y] 47)).alloc (.cells #[.int .i64 sx,.int .i64 kx,.int .i64 ax,.int .i64 tx] 152)=W0 at *
 have s1:=drewu18 s0
 refine wp_region_held_drew (S:=(fun w'=>cb12 w' (w.heap.size) (.slice At nt ct) (.slice Ak nk ck) (.int .i64 a) (.int .i64 b) (.int .i64 c) (.int .i64 d) (.int .i64 e) (.int .i64 W) (.int .i64 H) (x) (r) (y) (cb4 w' (w.heap.size+1) (.int .i64 sx) (.int .i64 kx) (.int .i64 ax) (.int .i64 tx) (cb2 w' 0 (.int .i64 0) (.int .i64 1) (Kp w w'))))) (by kernel_rfl) ?_ (fun hHeld=>?_)
 ·exact s1
 refine tk 0 ⟨some 5,_,_,_,_,_⟩ ?_ rfl (by kernel_rfl) (fun _ _ _ h=>h) (by rfl) ?_ (by assumption) ?_
 rotate_left
 ·intro w hSw;(try dsimp only at hSw);go_simp;(all_goals with_reducible rfl)
 simp only [Act.put,sA,sB,sC]
 refine tk 1 ⟨some 6,_,_,_,_,_⟩ ?_ rfl (by kernel_rfl) (fun _ _ _ h=>h) (by rfl) ?_ (by assumption) ?_
 rotate_left
 ·intro w hSw;(try dsimp only at hSw);go_simp;(all_goals with_reducible rfl)
 simp only [Act.put,sA,sB,sC]
 refine tk 2 ⟨some 7,_,_,_,_,_⟩ ?_ rfl (by kernel_rfl) (fun _ _ _ h=>h) (by rfl) ?_ (by assumption) ?_
 rotate_left
 ·intro w hSw;(try dsimp only at hSw);go_simp;(all_goals with_reducible rfl)
 simp only [Act.put,sA,sB,sC]
 refine wpAnyH_ready (rs:=[3]) (by kernel_rfl) (by simp) ?_
 refine AllReadyH.cons (o:=⟨some 8,_,_,_,_,_⟩) rfl (fun K hK=>?_) AllReadyH.nil
 go_simp
 refine(CH.out _).mono ?_;rintro e1 w1 ⟨rfl,k1⟩;have s2:=keepu18 k1 s1
 go_wp2_with fail
 refine hK.out _ _ ?_ (fun hHeld=>?_)
 ·(try dsimp only);(first | assumption | exact s3 | exact s2 | exact s1)
 clear hK K
 try simp only [Act.put,sA,sB,sC]
 refine tk 4 ⟨some 9,_,_,_,_,_⟩ ?_ rfl (by kernel_rfl) (fun _ _ _ h=>h) (by rfl) ?_ (by assumption) ?_
 rotate_left
 ·intro w hSw;(try dsimp only at hSw);go_simp;(all_goals with_reducible rfl)
 simp only [Act.put,sA,sB,sC]
 refine tk 5 ⟨some 10,_,_,_,_,_⟩ ?_ rfl (by kernel_rfl) (fun _ _ _ h=>h) (by rfl) ?_ (by assumption) ?_
 rotate_left
 ·intro w hSw;(try dsimp only at hSw);go_simp;(all_goals with_reducible rfl)
 simp only [Act.put,sA,sB,sC]
 refine tk 6 ⟨some 11,_,_,_,_,_⟩ ?_ rfl (by kernel_rfl) (fun _ _ _ h=>h) (by rfl) ?_ (by assumption) ?_
 rotate_left
 ·intro w hSw;(try dsimp only at hSw);go_simp;(all_goals with_reducible rfl)
 simp only [Act.put,sA,sB,sC]
 refine tk 7 ⟨some 12,_,_,_,_,_⟩ ?_ rfl (by kernel_rfl) (fun _ _ _ h=>h) (by rfl) ?_ (by assumption) ?_
 rotate_left
 ·intro w hSw;(try dsimp only at hSw);go_simp;(all_goals with_reducible rfl)
 simp only [Act.put,sA,sB,sC]
 refine tk 8 ⟨some 13,_,_,_,_,_⟩ ?_ rfl (by kernel_rfl) (fun _ _ _ h=>h) (by rfl) ?_ (by assumption) ?_
 rotate_left
 ·intro w hSw;(try dsimp only at hSw);go_simp;(all_goals with_reducible rfl)
 simp only [Act.put,sA,sB,sC]
 refine tk 9 ⟨some 14,_,_,_,_,_⟩ ?_ rfl (by kernel_rfl) (fun _ _ _ h=>h) (by rfl) ?_ (by assumption) ?_
 rotate_left
 ·intro w hSw;(try dsimp only at hSw);go_simp;(all_goals with_reducible rfl)
 simp only [Act.put,sA,sB,sC]
 refine wpAnyH_ready (rs:=[10]) (by kernel_rfl) (by simp) ?_
 refine AllReadyH.cons (o:=⟨some 15,_,_,_,_,_⟩) rfl (fun K hK=>?_) AllReadyH.nil
 go_simp
 refine(CK.out _).mono ?_;rintro e2 w2 ⟨rfl,k2⟩;have s3:=keepu18 k2 s2
 go_wp2_with fail
 refine hK.out _ _ ?_ (fun hHeld=>?_)
 ·(try dsimp only);(first | assumption | exact s3 | exact s2 | exact s1)
 clear hK K
 try simp only [Act.put,sA,sB,sC]
 refine tk 11 ⟨some 16,_,_,_,_,_⟩ ?_ rfl (by kernel_rfl) (fun _ _ _ h=>h) (by rfl) ?_ (by assumption) ?_
 rotate_left
 ·intro w hSw;(try dsimp only at hSw);go_simp;(all_goals with_reducible rfl)
 simp only [Act.put,sA,sB,sC]
 refine tk 12 ⟨some 17,_,_,_,_,_⟩ ?_ rfl (by kernel_rfl) (fun _ _ _ h=>h) (by rfl) ?_ (by assumption) ?_
 rotate_left
 ·intro w hSw;(try dsimp only at hSw);go_simp;(all_goals with_reducible rfl)
 simp only [Act.put,sA,sB,sC]
 refine tk 13 ⟨some 18,_,_,_,_,_⟩ ?_ rfl (by kernel_rfl) (fun _ _ _ h=>h) (by rfl) ?_ (by assumption) ?_
 rotate_left
 ·intro w hSw;(try dsimp only at hSw);go_simp;(all_goals with_reducible rfl)
 simp only [Act.put,sA,sB,sC]
 refine tn 14 ⟨some 19,_,_,_,_,_⟩ rfl (by kernel_rfl) (fun _ _ _ h=>h) (by rfl) (by assumption) ?_
 simp only [Act.put,sA,sB,sC]
 refine tn 15 ⟨some 20,_,_,_,_,_⟩ rfl (by kernel_rfl) (fun _ _ _ h=>h) (by rfl) (by assumption) ?_
 simp only [Act.put,sA,sB,sC]
 refine tn 16 ⟨some 21,_,_,_,_,_⟩ rfl (by kernel_rfl) (fun _ _ _ h=>h) (by rfl) (by assumption) ?_
 simp only [Act.put,sA,sB,sC]
 refine tn 17 ⟨some 22,_,_,_,_,_⟩ rfl (by kernel_rfl) (fun _ _ _ h=>h) (by rfl) (by assumption) ?_
 simp only [Act.put,sA,sB,sC]
 refine tn 18 ⟨some 23,_,_,_,_,_⟩ rfl (by kernel_rfl) (fun _ _ _ h=>h) (by rfl) (by assumption) ?_
 simp only [Act.put,sA,sB,sC]
 refine tn 19 ⟨some 24,_,_,_,_,_⟩ rfl (by kernel_rfl) (fun _ _ _ h=>h) (by rfl) (by assumption) ?_
 simp only [Act.put,sA,sB,sC]
 refine tn 20 ⟨some 25,_,_,_,_,_⟩ rfl (by kernel_rfl) (fun _ _ _ h=>h) (by rfl) (by assumption) ?_
 simp only [Act.put,sA,sB,sC]
 refine tn 21 ⟨some 26,_,_,_,_,_⟩ rfl (by kernel_rfl) (fun _ _ _ h=>h) (by rfl) (by assumption) ?_
 simp only [Act.put,sA,sB,sC]
 refine tn 22 ⟨some 27,_,_,_,_,_⟩ rfl (by kernel_rfl) (fun _ _ _ h=>h) (by rfl) (by assumption) ?_
 simp only [Act.put,sA,sB,sC]
 refine tn 23 ⟨some 28,_,_,_,_,_⟩ rfl (by kernel_rfl) (fun _ _ _ h=>h) (by rfl) (by assumption) ?_
 simp only [Act.put,sA,sB,sC]
 refine tn 24 ⟨some 29,_,_,_,_,_⟩ rfl (by kernel_rfl) (fun _ _ _ h=>h) (by rfl) (by assumption) ?_
 simp only [Act.put,sA,sB,sC]
 refine tk 25 ⟨some 30,_,_,_,_,_⟩ ?_ rfl (by kernel_rfl) (fun _ _ _ h=>h) (by rfl) ?_ (by assumption) ?_
 rotate_left
 ·intro w hSw;(try dsimp only at hSw);go_simp;(all_goals with_reducible rfl)
 simp only [Act.put,sA,sB,sC]
 refine wpAnyH_done (by kernel_rfl) ?_ _
 go_wp2_with fail
 go_ret
 exact⟨rfl,s3.2.2.2.2.2.2.2.2.2.2.2.2.2.2.2.2.2.2⟩
set_option maxRecDepth 100000 in
set_option maxHeartbeats 4000000 in
theorem isUnit_no3 (At:Option Addr) (nt nk ct ck:Nat) (l:List Ter) (m:List Knd) (a b c d e W H:Int) (x r y:Value) (lt lr ld:List Int) (gk ok:Nat) (stp:Int) (sx ax tx:Int) (K:Nat) (w:World) (hu:SpU w) (hB:BrdAt w At (some ⟨gk,ok,none⟩) nt nk l m x r y lt lr ld) (h1:spB 0 1 sx=true) (hk:K<nk) (hcell:w.cell? ⟨gk,ok+K*6+3,none⟩=some (.int .i64 stp)) (h3:stp<tx) :
  Calls Tryz.prog 184 #[bv (.slice At nt ct) (.slice (some ⟨gk,ok,none⟩) nk ck) a b c d e W H x r y,ux sx (K:Int) ax tx] w fun e' w'=>e'=.returned (.bool false)∧Kp w w':=by
 have hbk:=hB.R.bk
 have KA:Kp w ((w.alloc (.cells #[.slice At nt ct,.slice (some ⟨gk,ok,none⟩) nk ck,.int .i64 a,.int .i64 b,.int .i64 c,.int .i64 d,.int .i64 e,.int .i64 W,.int .i64 H,x,r,y] 47)).alloc (.cells #[.int .i64 sx,.int .i64 (K:Int),.int .i64 ax,.int .i64 tx] 152)):=((Kp.refl w).alloc _).alloc _
 have s0:cb12 ((w.alloc (.cells #[.slice At nt ct,.slice (some ⟨gk,ok,none⟩) nk ck,.int .i64 a,.int .i64 b,.int .i64 c,.int .i64 d,.int .i64 e,.int .i64 W,.int .i64 H,x,r,y] 47)).alloc (.cells #[.int .i64 sx,.int .i64 (K:Int),.int .i64 ax,.int .i64 tx] 152)) (w.heap.size) (.slice At nt ct) (.slice (some ⟨gk,ok,none⟩) nk ck) (.int .i64 a) (.int .i64 b) (.int .i64 c) (.int .i64 d) (.int .i64 e) (.int .i64 W) (.int .i64 H) (x) (r) (y) (cb4 ((w.alloc (.cells #[.slice At nt ct,.slice (some ⟨gk,ok,none⟩) nk ck,.int .i64 a,.int .i64 b,.int .i64 c,.int .i64 d,.int .i64 e,.int .i64 W,.int .i64 H,x,r,y] 47)).alloc (.cells #[.int .i64 sx,.int .i64 (K:Int),.int .i64 ax,.int .i64 tx] 152)) (w.heap.size+1) (.int .i64 sx) (.int .i64 (K:Int)) (.int .i64 ax) (.int .i64 tx) (cb2 ((w.alloc (.cells #[.slice At nt ct,.slice (some ⟨gk,ok,none⟩) nk ck,.int .i64 a,.int .i64 b,.int .i64 c,.int .i64 d,.int .i64 e,.int .i64 W,.int .i64 H,x,r,y] 47)).alloc (.cells #[.int .i64 sx,.int .i64 (K:Int),.int .i64 ax,.int .i64 tx] 152)) 0 (.int .i64 0) (.int .i64 1) (((w.alloc (.cells #[.slice At nt ct,.slice (some ⟨gk,ok,none⟩) nk ck,.int .i64 a,.int .i64 b,.int .i64 c,.int .i64 d,.int .i64 e,.int .i64 W,.int .i64 H,x,r,y] 47)).alloc (.cells #[.int .i64 sx,.int .i64 (K:Int),.int .i64 ax,.int .i64 tx] 152)).cell? ⟨gk,ok+K*6+3,none⟩=some (.int .i64 stp)∧Kp w ((w.alloc (.cells #[.slice At nt ct,.slice (some ⟨gk,ok,none⟩) nk ck,.int .i64 a,.int .i64 b,.int .i64 c,.int .i64 d,.int .i64 e,.int .i64 W,.int .i64 H,x,r,y] 47)).alloc (.cells #[.int .i64 sx,.int .i64 (K:Int),.int .i64 ax,.int .i64 tx] 152))))):=⟨by simp [go_sem],by simp [go_sem],by simp [go_sem],by simp [go_sem],by simp [go_sem],by simp [go_sem],by simp [go_sem],by simp [go_sem],by simp [go_sem],by simp [go_sem],by simp [go_sem],by simp [go_sem],by simp [go_sem],by simp [go_sem],by simp [go_sem],by simp [go_sem],KA.cell hu.side.1,KA.cell hu.side.2,KA.cell hcell,KA⟩
 have CH:Hid (∀ w,Calls Tryz.prog 69 #[.agg #[.int .i64 0,.int .i64 1],.int .i64 sx] w fun e w'=>e=.returned (.bool true)∧Kp w w'):=Lib.hid fun w=>by
  have:=has_any 0 1 sx w
  rw [h1] at this
  exact this
 have h2:inB (K:Int) nk=true:=by simp [inB];omega
 have CK:Hid (∀ w,Calls Tryz.prog 215 #[rv (.slice At nt ct) (.slice (some ⟨gk,ok,none⟩) nk ck) a b c d e,.int .i64 (K:Int)] w fun e' w'=>e'=.returned (.bool true)∧Kp w w'):=Lib.hid fun w=>by
  have:=isKind_any (.slice At nt ct) (some ⟨gk,ok,none⟩) nk ck a b c d e (K:Int) w
  rw [h2] at this
  exact this
 have HK:=Lib.hid hk
 have hkI:(K:Int)<nk:=by omega
 have hkO:((K:Int)).toNat=K:=by omega
 clear hu h1 h2 KA hB hcell
 go_enter Tryz.func184,Tryz.ntmps184
 go_wp2_with fail
 generalize (w.alloc (.cells #[.slice At nt ct,.slice (some ⟨gk,ok,none⟩) nk ck,.int .i64 a,.int .i64 b,.int .i64 c,.int .i64 d,.int .i64 e,.int .i64 W,.int .i64 H,x,r,y] 47)).alloc (.cells #[.int .i64 sx,.int .i64 (K:Int),.int .i64 ax,.int .i64 tx] 152)=W0 at *
 have s1:=drewu19 s0
 refine wp_region_held_drew (S:=(fun w'=>cb12 w' (w.heap.size) (.slice At nt ct) (.slice (some ⟨gk,ok,none⟩) nk ck) (.int .i64 a) (.int .i64 b) (.int .i64 c) (.int .i64 d) (.int .i64 e) (.int .i64 W) (.int .i64 H) (x) (r) (y) (cb4 w' (w.heap.size+1) (.int .i64 sx) (.int .i64 (K:Int)) (.int .i64 ax) (.int .i64 tx) (cb2 w' 0 (.int .i64 0) (.int .i64 1) (w'.cell? ⟨gk,ok+K*6+3,none⟩=some (.int .i64 stp)∧Kp w w'))))) (by kernel_rfl) ?_ (fun hHeld=>?_)
 ·exact s1
 refine tk 0 ⟨some 5,_,_,_,_,_⟩ ?_ rfl (by kernel_rfl) (fun _ _ _ h=>h) (by rfl) ?_ (by assumption) ?_
 rotate_left
 ·intro w hSw;(try dsimp only at hSw);go_simp;(all_goals with_reducible rfl)
 simp only [Act.put,sA,sB,sC]
 refine tk 1 ⟨some 6,_,_,_,_,_⟩ ?_ rfl (by kernel_rfl) (fun _ _ _ h=>h) (by rfl) ?_ (by assumption) ?_
 rotate_left
 ·intro w hSw;(try dsimp only at hSw);go_simp;(all_goals with_reducible rfl)
 simp only [Act.put,sA,sB,sC]
 refine tk 2 ⟨some 7,_,_,_,_,_⟩ ?_ rfl (by kernel_rfl) (fun _ _ _ h=>h) (by rfl) ?_ (by assumption) ?_
 rotate_left
 ·intro w hSw;(try dsimp only at hSw);go_simp;(all_goals with_reducible rfl)
 simp only [Act.put,sA,sB,sC]
 refine wpAnyH_ready (rs:=[3]) (by kernel_rfl) (by simp) ?_
 refine AllReadyH.cons (o:=⟨some 8,_,_,_,_,_⟩) rfl (fun K hK=>?_) AllReadyH.nil
 go_simp
 refine(CH.out _).mono ?_;rintro e1 w1 ⟨rfl,k1⟩;have s2:=keepu19 k1 s1
 go_wp2_with fail
 refine hK.out _ _ ?_ (fun hHeld=>?_)
 ·(try dsimp only);(first | assumption | exact s3 | exact s2 | exact s1)
 clear hK K
 try simp only [Act.put,sA,sB,sC]
 refine tk 4 ⟨some 9,_,_,_,_,_⟩ ?_ rfl (by kernel_rfl) (fun _ _ _ h=>h) (by rfl) ?_ (by assumption) ?_
 rotate_left
 ·intro w hSw;(try dsimp only at hSw);go_simp;(all_goals with_reducible rfl)
 simp only [Act.put,sA,sB,sC]
 refine tk 5 ⟨some 10,_,_,_,_,_⟩ ?_ rfl (by kernel_rfl) (fun _ _ _ h=>h) (by rfl) ?_ (by assumption) ?_
 rotate_left
 ·intro w hSw;(try dsimp only at hSw);go_simp;(all_goals with_reducible rfl)
 simp only [Act.put,sA,sB,sC]
 refine tk 6 ⟨some 11,_,_,_,_,_⟩ ?_ rfl (by kernel_rfl) (fun _ _ _ h=>h) (by rfl) ?_ (by assumption) ?_
 rotate_left
 ·intro w hSw;(try dsimp only at hSw);go_simp;(all_goals with_reducible rfl)
 simp only [Act.put,sA,sB,sC]
 refine tk 7 ⟨some 12,_,_,_,_,_⟩ ?_ rfl (by kernel_rfl) (fun _ _ _ h=>h) (by rfl) ?_ (by assumption) ?_
 rotate_left
 ·intro w hSw;(try dsimp only at hSw);go_simp;(all_goals with_reducible rfl)
 simp only [Act.put,sA,sB,sC]
 refine tk 8 ⟨some 13,_,_,_,_,_⟩ ?_ rfl (by kernel_rfl) (fun _ _ _ h=>h) (by rfl) ?_ (by assumption) ?_
 rotate_left
 ·intro w hSw;(try dsimp only at hSw);go_simp;(all_goals with_reducible rfl)
 simp only [Act.put,sA,sB,sC]
 refine tk 9 ⟨some 14,_,_,_,_,_⟩ ?_ rfl (by kernel_rfl) (fun _ _ _ h=>h) (by rfl) ?_ (by assumption) ?_
 rotate_left
 ·intro w hSw;(try dsimp only at hSw);go_simp;(all_goals with_reducible rfl)
 simp only [Act.put,sA,sB,sC]
 refine wpAnyH_ready (rs:=[10]) (by kernel_rfl) (by simp) ?_
 refine AllReadyH.cons (o:=⟨some 15,_,_,_,_,_⟩) rfl (fun K hK=>?_) AllReadyH.nil
 go_simp
 refine(CK.out _).mono ?_;rintro e2 w2 ⟨rfl,k2⟩;have s3:=keepu19 k2 s2
 go_wp2_with fail
 refine hK.out _ _ ?_ (fun hHeld=>?_)
 ·(try dsimp only);(first | assumption | exact s3 | exact s2 | exact s1)
 clear hK K
 try simp only [Act.put,sA,sB,sC]
 refine tk 11 ⟨some 16,_,_,_,_,_⟩ ?_ rfl (by kernel_rfl) (fun _ _ _ h=>h) (by rfl) ?_ (by assumption) ?_
 rotate_left
 ·intro w hSw;(try dsimp only at hSw);go_simp;(all_goals with_reducible rfl)
 simp only [Act.put,sA,sB,sC]
 refine tk 12 ⟨some 17,_,_,_,_,_⟩ ?_ rfl (by kernel_rfl) (fun _ _ _ h=>h) (by rfl) ?_ (by assumption) ?_
 rotate_left
 ·intro w hSw;(try dsimp only at hSw);go_simp;(all_goals with_reducible rfl)
 simp only [Act.put,sA,sB,sC]
 refine tk 13 ⟨some 18,_,_,_,_,_⟩ ?_ rfl (by kernel_rfl) (fun _ _ _ h=>h) (by rfl) ?_ (by assumption) ?_
 rotate_left
 ·intro w hSw;(try dsimp only at hSw);go_simp;(all_goals with_reducible rfl)
 simp only [Act.put,sA,sB,sC]
 refine tk 14 ⟨some 19,_,_,_,_,_⟩ ?_ rfl (by kernel_rfl) (fun _ _ _ h=>h) (by rfl) ?_ (by assumption) ?_
 rotate_left
 ·intro w hSw;(try dsimp only at hSw);go_simp;(all_goals with_reducible rfl)
 simp only [Act.put,sA,sB,sC]
 refine tk 15 ⟨some 20,_,_,_,_,_⟩ ?_ rfl (by kernel_rfl) (fun _ _ _ h=>h) (by rfl) ?_ (by assumption) ?_
 rotate_left
 ·intro w hSw;(try dsimp only at hSw);go_simp;(all_goals with_reducible rfl)
 simp only [Act.put,sA,sB,sC]
 refine tk 16 ⟨some 21,_,_,_,_,_⟩ ?_ rfl (by kernel_rfl) (fun _ _ _ h=>h) (by rfl) ?_ (by assumption) ?_
 rotate_left
 ·intro w hSw;(try dsimp only at hSw);go_simp;(all_goals with_reducible rfl)
 simp only [Act.put,sA,sB,sC]
 refine tk 17 ⟨some 22,_,_,_,_,_⟩ ?_ rfl (by kernel_rfl) (fun _ _ _ h=>h) (by rfl) ?_ (by assumption) ?_
 rotate_left
 ·intro w hSw;(try dsimp only at hSw);go_simp;(all_goals with_reducible rfl)
 simp only [Act.put,sA,sB,sC]
 refine tk 18 ⟨some 23,_,_,_,_,_⟩ ?_ rfl (by kernel_rfl) (fun _ _ _ h=>h) (by rfl) ?_ (by assumption) ?_
 rotate_left
 ·intro w hSw;(try dsimp only at hSw);go_simp;(all_goals with_reducible rfl)
 simp only [Act.put,sA,sB,sC]
 refine tk 19 ⟨some 24,_,_,_,_,_⟩ ?_ rfl (by kernel_rfl) (fun _ _ _ h=>h) (by rfl) ?_ (by assumption) ?_
 rotate_left
 ·intro w hSw;(try dsimp only at hSw);go_simp;(all_goals with_reducible rfl)
 simp only [Act.put,sA,sB,sC]
 refine tk 20 ⟨some 25,_,_,_,_,_⟩ ?_ rfl (by kernel_rfl) (fun _ _ _ h=>h) (by rfl) ?_ (by assumption) ?_
 rotate_left
 ·intro w hSw;(try dsimp only at hSw);go_simp;(all_goals with_reducible rfl)
 simp only [Act.put,sA,sB,sC]
 refine tk 21 ⟨some 26,_,_,_,_,_⟩ ?_ rfl (by kernel_rfl) (fun _ _ _ h=>h) (by rfl) ?_ (by assumption) ?_
 rotate_left
 ·intro w hSw;(try dsimp only at hSw);go_simp;(all_goals with_reducible rfl)
 simp only [Act.put,sA,sB,sC]
 refine tk 22 ⟨some 27,_,_,_,_,_⟩ ?_ rfl (by kernel_rfl) (fun _ _ _ h=>h) (by rfl) ?_ (by assumption) ?_
 rotate_left
 ·intro w hSw;(try dsimp only at hSw);go_simp;(all_goals with_reducible rfl)
 simp only [Act.put,sA,sB,sC]
 refine tk 23 ⟨some 28,_,_,_,_,_⟩ ?_ rfl (by kernel_rfl) (fun _ _ _ h=>h) (by rfl) ?_ (by assumption) ?_
 rotate_left
 ·intro w hSw;(try dsimp only at hSw);go_simp;(all_goals with_reducible rfl)
 simp only [Act.put,sA,sB,sC]
 refine tk 24 ⟨some 29,_,_,_,_,_⟩ ?_ rfl (by kernel_rfl) (fun _ _ _ h=>h) (by rfl) ?_ (by assumption) ?_
 rotate_left
 ·intro w hSw;(try dsimp only at hSw);go_simp;(all_goals with_reducible rfl)
 simp only [Act.put,sA,sB,sC]
 refine tk 25 ⟨some 30,_,_,_,_,_⟩ ?_ rfl (by kernel_rfl) (fun _ _ _ h=>h) (by rfl) ?_ (by assumption) ?_
 rotate_left
 ·intro w hSw;(try dsimp only at hSw);go_simp;(all_goals with_reducible rfl)
 simp only [Act.put,sA,sB,sC]
 refine wpAnyH_done (by kernel_rfl) ?_ _
 go_wp2_with fail
 go_ret
 exact⟨rfl,s3.2.2.2.2.2.2.2.2.2.2.2.2.2.2.2.2.2.2.2⟩
set_option maxRecDepth 100000 in
set_option maxHeartbeats 4000000 in
theorem isUnit_main (At:Option Addr) (nt nk ct ck:Nat) (l:List Ter) (m:List Knd) (a b c d e W H:Int) (x r y:Value) (lt lr ld:List Int) (gk ok:Nat) (stp:Int) (sx ax tx:Int) (K:Nat) (w:World) (hu:SpU w) (hB:BrdAt w At (some ⟨gk,ok,none⟩) nt nk l m x r y lt lr ld) (hok:brdOk ⟨l,m,a,b,c,d,e⟩ W H lt lr ld=true) (h1:spB 0 1 sx=true) (hk:K<nk) (hcell:w.cell? ⟨gk,ok+K*6+3,none⟩=some (.int .i64 stp)) (h3:tx≤stp) (ht:isI64 tx) :
  Calls Tryz.prog 184 #[bv (.slice At nt ct) (.slice (some ⟨gk,ok,none⟩) nk ck) a b c d e W H x r y,ux sx (K:Int) ax tx] w fun e' w'=>e'=.returned (.bool (uniR l lt W H K stp ax tx))∧Kp w w':=by
 have hbk:=hB.R.bk
 have HML:=Lib.hid hB.R.rk.1
 have KA:Kp w ((w.alloc (.cells #[.slice At nt ct,.slice (some ⟨gk,ok,none⟩) nk ck,.int .i64 a,.int .i64 b,.int .i64 c,.int .i64 d,.int .i64 e,.int .i64 W,.int .i64 H,x,r,y] 47)).alloc (.cells #[.int .i64 sx,.int .i64 (K:Int),.int .i64 ax,.int .i64 tx] 152)):=((Kp.refl w).alloc _).alloc _
 have s0:cb12 ((w.alloc (.cells #[.slice At nt ct,.slice (some ⟨gk,ok,none⟩) nk ck,.int .i64 a,.int .i64 b,.int .i64 c,.int .i64 d,.int .i64 e,.int .i64 W,.int .i64 H,x,r,y] 47)).alloc (.cells #[.int .i64 sx,.int .i64 (K:Int),.int .i64 ax,.int .i64 tx] 152)) (w.heap.size) (.slice At nt ct) (.slice (some ⟨gk,ok,none⟩) nk ck) (.int .i64 a) (.int .i64 b) (.int .i64 c) (.int .i64 d) (.int .i64 e) (.int .i64 W) (.int .i64 H) (x) (r) (y) (cb4 ((w.alloc (.cells #[.slice At nt ct,.slice (some ⟨gk,ok,none⟩) nk ck,.int .i64 a,.int .i64 b,.int .i64 c,.int .i64 d,.int .i64 e,.int .i64 W,.int .i64 H,x,r,y] 47)).alloc (.cells #[.int .i64 sx,.int .i64 (K:Int),.int .i64 ax,.int .i64 tx] 152)) (w.heap.size+1) (.int .i64 sx) (.int .i64 (K:Int)) (.int .i64 ax) (.int .i64 tx) (cb2 ((w.alloc (.cells #[.slice At nt ct,.slice (some ⟨gk,ok,none⟩) nk ck,.int .i64 a,.int .i64 b,.int .i64 c,.int .i64 d,.int .i64 e,.int .i64 W,.int .i64 H,x,r,y] 47)).alloc (.cells #[.int .i64 sx,.int .i64 (K:Int),.int .i64 ax,.int .i64 tx] 152)) 0 (.int .i64 0) (.int .i64 1) (((w.alloc (.cells #[.slice At nt ct,.slice (some ⟨gk,ok,none⟩) nk ck,.int .i64 a,.int .i64 b,.int .i64 c,.int .i64 d,.int .i64 e,.int .i64 W,.int .i64 H,x,r,y] 47)).alloc (.cells #[.int .i64 sx,.int .i64 (K:Int),.int .i64 ax,.int .i64 tx] 152)).cell? ⟨gk,ok+K*6+3,none⟩=some (.int .i64 stp)∧Kp w ((w.alloc (.cells #[.slice At nt ct,.slice (some ⟨gk,ok,none⟩) nk ck,.int .i64 a,.int .i64 b,.int .i64 c,.int .i64 d,.int .i64 e,.int .i64 W,.int .i64 H,x,r,y] 47)).alloc (.cells #[.int .i64 sx,.int .i64 (K:Int),.int .i64 ax,.int .i64 tx] 152))))):=⟨by simp [go_sem],by simp [go_sem],by simp [go_sem],by simp [go_sem],by simp [go_sem],by simp [go_sem],by simp [go_sem],by simp [go_sem],by simp [go_sem],by simp [go_sem],by simp [go_sem],by simp [go_sem],by simp [go_sem],by simp [go_sem],by simp [go_sem],by simp [go_sem],KA.cell hu.side.1,KA.cell hu.side.2,KA.cell hcell,KA⟩
 have CH:Hid (∀ w,Calls Tryz.prog 69 #[.agg #[.int .i64 0,.int .i64 1],.int .i64 sx] w fun e w'=>e=.returned (.bool true)∧Kp w w'):=Lib.hid fun w=>by
  have:=has_any 0 1 sx w
  rw [h1] at this
  exact this
 have h2:inB (K:Int) nk=true:=by simp [inB];omega
 have CK:Hid (∀ w,Calls Tryz.prog 215 #[rv (.slice At nt ct) (.slice (some ⟨gk,ok,none⟩) nk ck) a b c d e,.int .i64 (K:Int)] w fun e' w'=>e'=.returned (.bool true)∧Kp w w'):=Lib.hid fun w=>by
  have:=isKind_any (.slice At nt ct) (some ⟨gk,ok,none⟩) nk ck a b c d e (K:Int) w
  rw [h2] at this
  exact this
 have HB:=Lib.hid hB
 have HOK:=Lib.hid hok
 have HP:=Lib.hid (mapOk_side (brdOk_map hok))
 have HLN:=Lib.hid (mapOk_len (brdOk_map hok))
 obtain⟨ht1,ht2⟩:=ht
 have hkI:(K:Int)<nk:=by omega
 have hkO:((K:Int)).toNat=K:=by omega
 have h3':¬ stp<tx:=by omega
 clear hu h1 h2 KA hB hcell hok
 go_enter Tryz.func184,Tryz.ntmps184
 go_wp2_with fail
 generalize (w.alloc (.cells #[.slice At nt ct,.slice (some ⟨gk,ok,none⟩) nk ck,.int .i64 a,.int .i64 b,.int .i64 c,.int .i64 d,.int .i64 e,.int .i64 W,.int .i64 H,x,r,y] 47)).alloc (.cells #[.int .i64 sx,.int .i64 (K:Int),.int .i64 ax,.int .i64 tx] 152)=W0 at *
 have s1:=drewu19 s0
 refine wp_region_held_drew (S:=(fun w'=>cb12 w' (w.heap.size) (.slice At nt ct) (.slice (some ⟨gk,ok,none⟩) nk ck) (.int .i64 a) (.int .i64 b) (.int .i64 c) (.int .i64 d) (.int .i64 e) (.int .i64 W) (.int .i64 H) (x) (r) (y) (cb4 w' (w.heap.size+1) (.int .i64 sx) (.int .i64 (K:Int)) (.int .i64 ax) (.int .i64 tx) (cb2 w' 0 (.int .i64 0) (.int .i64 1) (w'.cell? ⟨gk,ok+K*6+3,none⟩=some (.int .i64 stp)∧Kp w w'))))) (by kernel_rfl) ?_ (fun hHeld=>?_)
 ·exact s1
 refine tk 0 ⟨some 5,_,_,_,_,_⟩ ?_ rfl (by kernel_rfl) (fun _ _ _ h=>h) (by rfl) ?_ (by assumption) ?_
 rotate_left
 ·intro w hSw;(try dsimp only at hSw);go_simp;(all_goals with_reducible rfl)
 simp only [Act.put,sA,sB,sC]
 refine tk 1 ⟨some 6,_,_,_,_,_⟩ ?_ rfl (by kernel_rfl) (fun _ _ _ h=>h) (by rfl) ?_ (by assumption) ?_
 rotate_left
 ·intro w hSw;(try dsimp only at hSw);go_simp;(all_goals with_reducible rfl)
 simp only [Act.put,sA,sB,sC]
 refine tk 2 ⟨some 7,_,_,_,_,_⟩ ?_ rfl (by kernel_rfl) (fun _ _ _ h=>h) (by rfl) ?_ (by assumption) ?_
 rotate_left
 ·intro w hSw;(try dsimp only at hSw);go_simp;(all_goals with_reducible rfl)
 simp only [Act.put,sA,sB,sC]
 refine wpAnyH_ready (rs:=[3]) (by kernel_rfl) (by simp) ?_
 refine AllReadyH.cons (o:=⟨some 8,_,_,_,_,_⟩) rfl (fun K hK=>?_) AllReadyH.nil
 go_simp
 refine(CH.out _).mono ?_;rintro e1 w1 ⟨rfl,k1⟩;have s2:=keepu19 k1 s1
 go_wp2_with fail
 refine hK.out _ _ ?_ (fun hHeld=>?_)
 ·(try dsimp only);(first | assumption | exact s3 | exact s2 | exact s1)
 clear hK K
 try simp only [Act.put,sA,sB,sC]
 refine tk 4 ⟨some 9,_,_,_,_,_⟩ ?_ rfl (by kernel_rfl) (fun _ _ _ h=>h) (by rfl) ?_ (by assumption) ?_
 rotate_left
 ·intro w hSw;(try dsimp only at hSw);go_simp;(all_goals with_reducible rfl)
 simp only [Act.put,sA,sB,sC]
 refine tk 5 ⟨some 10,_,_,_,_,_⟩ ?_ rfl (by kernel_rfl) (fun _ _ _ h=>h) (by rfl) ?_ (by assumption) ?_
 rotate_left
 ·intro w hSw;(try dsimp only at hSw);go_simp;(all_goals with_reducible rfl)
 simp only [Act.put,sA,sB,sC]
 refine tk 6 ⟨some 11,_,_,_,_,_⟩ ?_ rfl (by kernel_rfl) (fun _ _ _ h=>h) (by rfl) ?_ (by assumption) ?_
 rotate_left
 ·intro w hSw;(try dsimp only at hSw);go_simp;(all_goals with_reducible rfl)
 simp only [Act.put,sA,sB,sC]
 refine tk 7 ⟨some 12,_,_,_,_,_⟩ ?_ rfl (by kernel_rfl) (fun _ _ _ h=>h) (by rfl) ?_ (by assumption) ?_
 rotate_left
 ·intro w hSw;(try dsimp only at hSw);go_simp;(all_goals with_reducible rfl)
 simp only [Act.put,sA,sB,sC]
 refine tk 8 ⟨some 13,_,_,_,_,_⟩ ?_ rfl (by kernel_rfl) (fun _ _ _ h=>h) (by rfl) ?_ (by assumption) ?_
 rotate_left
 ·intro w hSw;(try dsimp only at hSw);go_simp;(all_goals with_reducible rfl)
 simp only [Act.put,sA,sB,sC]
 refine tk 9 ⟨some 14,_,_,_,_,_⟩ ?_ rfl (by kernel_rfl) (fun _ _ _ h=>h) (by rfl) ?_ (by assumption) ?_
 rotate_left
 ·intro w hSw;(try dsimp only at hSw);go_simp;(all_goals with_reducible rfl)
 simp only [Act.put,sA,sB,sC]
 refine wpAnyH_ready (rs:=[10]) (by kernel_rfl) (by simp) ?_
 refine AllReadyH.cons (o:=⟨some 15,_,_,_,_,_⟩) rfl (fun K hK=>?_) AllReadyH.nil
 go_simp
 refine(CK.out _).mono ?_;rintro e2 w2 ⟨rfl,k2⟩;have s3:=keepu19 k2 s2
 go_wp2_with fail
 refine hK.out _ _ ?_ (fun hHeld=>?_)
 ·(try dsimp only);(first | assumption | exact s3 | exact s2 | exact s1)
 clear hK K
 try simp only [Act.put,sA,sB,sC]
 refine tk 11 ⟨some 16,_,_,_,_,_⟩ ?_ rfl (by kernel_rfl) (fun _ _ _ h=>h) (by rfl) ?_ (by assumption) ?_
 rotate_left
 ·intro w hSw;(try dsimp only at hSw);go_simp;(all_goals with_reducible rfl)
 simp only [Act.put,sA,sB,sC]
 refine tk 12 ⟨some 17,_,_,_,_,_⟩ ?_ rfl (by kernel_rfl) (fun _ _ _ h=>h) (by rfl) ?_ (by assumption) ?_
 rotate_left
 ·intro w hSw;(try dsimp only at hSw);go_simp;(all_goals with_reducible rfl)
 simp only [Act.put,sA,sB,sC]
 refine tk 13 ⟨some 18,_,_,_,_,_⟩ ?_ rfl (by kernel_rfl) (fun _ _ _ h=>h) (by rfl) ?_ (by assumption) ?_
 rotate_left
 ·intro w hSw;(try dsimp only at hSw);go_simp;(all_goals with_reducible rfl)
 simp only [Act.put,sA,sB,sC]
 refine tk 14 ⟨some 19,_,_,_,_,_⟩ ?_ rfl (by kernel_rfl) (fun _ _ _ h=>h) (by rfl) ?_ (by assumption) ?_
 rotate_left
 ·intro w hSw;(try dsimp only at hSw);go_simp;(all_goals with_reducible rfl)
 simp only [Act.put,sA,sB,sC]
 refine tk 15 ⟨some 20,_,_,_,_,_⟩ ?_ rfl (by kernel_rfl) (fun _ _ _ h=>h) (by rfl) ?_ (by assumption) ?_
 rotate_left
 ·intro w hSw;(try dsimp only at hSw);go_simp;(all_goals with_reducible rfl)
 simp only [Act.put,sA,sB,sC]
 refine tk 16 ⟨some 21,_,_,_,_,_⟩ ?_ rfl (by kernel_rfl) (fun _ _ _ h=>h) (by rfl) ?_ (by assumption) ?_
 rotate_left
 ·intro w hSw;(try dsimp only at hSw);go_simp;(all_goals with_reducible rfl)
 simp only [Act.put,sA,sB,sC]
 refine tk 17 ⟨some 22,_,_,_,_,_⟩ ?_ rfl (by kernel_rfl) (fun _ _ _ h=>h) (by rfl) ?_ (by assumption) ?_
 rotate_left
 ·intro w hSw;(try dsimp only at hSw);go_simp;(all_goals with_reducible rfl)
 simp only [Act.put,sA,sB,sC]
 refine tk 18 ⟨some 23,_,_,_,_,_⟩ ?_ rfl (by kernel_rfl) (fun _ _ _ h=>h) (by rfl) ?_ (by assumption) ?_
 rotate_left
 ·intro w hSw;(try dsimp only at hSw);go_simp;(all_goals with_reducible rfl)
 simp only [Act.put,sA,sB,sC]
 refine tk 19 ⟨some 24,_,_,_,_,_⟩ ?_ rfl (by kernel_rfl) (fun _ _ _ h=>h) (by rfl) ?_ (by assumption) ?_
 rotate_left
 ·intro w hSw;(try dsimp only at hSw);go_simp;(all_goals with_reducible rfl)
 simp only [Act.put,sA,sB,sC]
 refine tk 20 ⟨some 25,_,_,_,_,_⟩ ?_ rfl (by kernel_rfl) (fun _ _ _ h=>h) (by rfl) ?_ (by assumption) ?_
 rotate_left
 ·intro w hSw;(try dsimp only at hSw);go_simp;(all_goals with_reducible rfl)
 simp only [Act.put,sA,sB,sC]
 refine tk 21 ⟨some 26,_,_,_,_,_⟩ ?_ rfl (by kernel_rfl) (fun _ _ _ h=>h) (by rfl) ?_ (by assumption) ?_
 rotate_left
 ·intro w hSw;(try dsimp only at hSw);go_simp;(all_goals with_reducible rfl)
 simp only [Act.put,sA,sB,sC]
 refine tk 22 ⟨some 27,_,_,_,_,_⟩ ?_ rfl (by kernel_rfl) (fun _ _ _ h=>h) (by rfl) ?_ (by assumption) ?_
 rotate_left
 ·intro w hSw;(try dsimp only at hSw);go_simp;(all_goals with_reducible rfl)
 simp only [Act.put,sA,sB,sC]
 refine tk 23 ⟨some 28,_,_,_,_,_⟩ ?_ rfl (by kernel_rfl) (fun _ _ _ h=>h) (by rfl) ?_ (by assumption) ?_
 rotate_left
 ·intro w hSw;(try dsimp only at hSw);go_simp;(all_goals with_reducible rfl)
 simp only [Act.put,sA,sB,sC]
 refine tk 24 ⟨some 29,_,_,_,_,_⟩ ?_ rfl (by kernel_rfl) (fun _ _ _ h=>h) (by rfl) ?_ (by assumption) ?_
 rotate_left
 ·intro w hSw;(try dsimp only at hSw);go_simp;(all_goals with_reducible rfl)
 simp only [Act.put,sA,sB,sC]
 refine tk 25 ⟨some 30,_,_,_,_,_⟩ ?_ rfl (by kernel_rfl) (fun _ _ _ h=>h) (by rfl) ?_ (by assumption) ?_
 rotate_left
 ·intro w hSw;(try dsimp only at hSw);go_simp;(all_goals with_reducible rfl)
 simp only [Act.put,sA,sB,sC]
 refine wpAnyH_done (by kernel_rfl) ?_ _
 go_wp2_with fail
 by_cases ha:ax=-1
 ·subst ha
  refine(onMap_no _ _ _ _).mono ?_
  rintro e4 w4 ⟨rfl,k4⟩
  have s4:=keepu19 k4 s3
  clear s0 s1 s2 s3
  go_wp2_with fail
  have s5:=drewu19 s4
  rcases Int.lt_trichotomy tx 0 with h4 | h4 | h4
  ·have hne:¬ tx=0:=by omega
   have HR:Hid (uniR l lt W H K stp (-1) tx=false):=Lib.hid (by
    have:spB 0 stp tx=false:=by simp [spB];omega
    unfold uniR
    rw [this,Bool.false_and])
   have CLO:Hid (∀ w,Calls Tryz.prog 110 #[ux sx (K:Int) (-1) tx,.int .i64 0] w fun e w'=>e=.returned (ux sx (K:Int) (-1) 0)∧Kp w w'):=Lib.hid fun w=>by
    have:=losing_lo sx (K:Int) (-1) tx 0 w (by omega) (by omega)
    exact this
   refine wp_region_held_drew (S:=(fun w'=>cb12 w' (w.heap.size) (.slice At nt ct) (.slice (some ⟨gk,ok,none⟩) nk ck) (.int .i64 a) (.int .i64 b) (.int .i64 c) (.int .i64 d) (.int .i64 e) (.int .i64 W) (.int .i64 H) (x) (r) (y) (cb4 w' (w.heap.size+1) (.int .i64 sx) (.int .i64 (K:Int)) (.int .i64 (-1)) (.int .i64 tx) (cb2 w' 0 (.int .i64 0) (.int .i64 1) (w'.cell? ⟨gk,ok+K*6+3,none⟩=some (.int .i64 stp)∧Kp w w'))))) (by kernel_rfl) ?_ (fun hHeld=>?_)
   ·exact s5
   refine tk 0 ⟨some 50,_,_,_,_,_⟩ ?_ rfl (by kernel_rfl) (fun _ _ _ h=>h) (by rfl) ?_ (by assumption) ?_
   rotate_left
   ·intro w hSw;(try dsimp only at hSw);go_simp;(all_goals with_reducible rfl)
   simp only [Act.put,sA,sB,sC]
   refine tk 1 ⟨some 51,_,_,_,_,_⟩ ?_ rfl (by kernel_rfl) (fun _ _ _ h=>h) (by rfl) ?_ (by assumption) ?_
   rotate_left
   ·intro w hSw;(try dsimp only at hSw);go_simp;(all_goals with_reducible rfl)
   simp only [Act.put,sA,sB,sC]
   refine wpAnyH_ready (rs:=[2]) (by kernel_rfl) (by simp) ?_
   refine AllReadyH.cons (o:=⟨some 52,_,_,_,_,_⟩) rfl (fun K hK=>?_) AllReadyH.nil
   go_simp
   refine(CLO.out _).mono ?_;rintro e6 w6 ⟨rfl,k6⟩;have s6:=keepu19 k6 s5
   go_wp2_with fail
   refine hK.out _ _ ?_ (fun hHeld=>?_)
   ·(try dsimp only);(first | assumption | exact s6 | exact s5)
   clear hK K
   try simp only [Act.put,sA,sB,sC]
   refine tk 3 ⟨some 53,_,_,_,_,_⟩ ?_ rfl (by kernel_rfl) (fun _ _ _ h=>h) (by rfl) ?_ (by assumption) ?_
   rotate_left
   ·intro w hSw;(try dsimp only at hSw);go_simp;(all_goals with_reducible rfl)
   simp only [Act.put,sA,sB,sC]
   refine tk 4 ⟨some 4,_,_,_,_,_⟩ ?_ rfl (by kernel_rfl) (fun _ _ _ h=>h) (by rfl) ?_ (by assumption) ?_
   rotate_left
   ·intro w hSw;(try dsimp only at hSw);go_simp;(all_goals with_reducible rfl)
   simp only [Act.put,sA,sB,sC]
   refine wpAnyH_done (by kernel_rfl) ?_ _
   go_wp2_with fail
   go_ret
   exact⟨ret_bool HR.out.symm,s6.2.2.2.2.2.2.2.2.2.2.2.2.2.2.2.2.2.2.2⟩
  ·subst h4
   have HR:Hid (uniR l lt W H K stp (-1) 0=true):=Lib.hid (by
    have:spB 0 stp 0=true:=by simp [spB];omega
    unfold uniR
    rw [this]
    rfl)
   have CLO:Hid (∀ w,Calls Tryz.prog 110 #[ux sx (K:Int) (-1) 0,.int .i64 0] w fun e w'=>e=.returned (ux sx (K:Int) (-1) 0)∧Kp w w'):=Lib.hid fun w=>by
    have:=losing_lo sx (K:Int) (-1) 0 0 w (by omega) (by omega)
    exact this
   refine wp_region_held_drew (S:=(fun w'=>cb12 w' (w.heap.size) (.slice At nt ct) (.slice (some ⟨gk,ok,none⟩) nk ck) (.int .i64 a) (.int .i64 b) (.int .i64 c) (.int .i64 d) (.int .i64 e) (.int .i64 W) (.int .i64 H) (x) (r) (y) (cb4 w' (w.heap.size+1) (.int .i64 sx) (.int .i64 (K:Int)) (.int .i64 (-1)) (.int .i64 0) (cb2 w' 0 (.int .i64 0) (.int .i64 1) (w'.cell? ⟨gk,ok+K*6+3,none⟩=some (.int .i64 stp)∧Kp w w'))))) (by kernel_rfl) ?_ (fun hHeld=>?_)
   ·exact s5
   refine tk 0 ⟨some 50,_,_,_,_,_⟩ ?_ rfl (by kernel_rfl) (fun _ _ _ h=>h) (by rfl) ?_ (by assumption) ?_
   rotate_left
   ·intro w hSw;(try dsimp only at hSw);go_simp;(all_goals with_reducible rfl)
   simp only [Act.put,sA,sB,sC]
   refine tk 1 ⟨some 51,_,_,_,_,_⟩ ?_ rfl (by kernel_rfl) (fun _ _ _ h=>h) (by rfl) ?_ (by assumption) ?_
   rotate_left
   ·intro w hSw;(try dsimp only at hSw);go_simp;(all_goals with_reducible rfl)
   simp only [Act.put,sA,sB,sC]
   refine wpAnyH_ready (rs:=[2]) (by kernel_rfl) (by simp) ?_
   refine AllReadyH.cons (o:=⟨some 52,_,_,_,_,_⟩) rfl (fun K hK=>?_) AllReadyH.nil
   go_simp
   refine(CLO.out _).mono ?_;rintro e6 w6 ⟨rfl,k6⟩;have s6:=keepu19 k6 s5
   go_wp2_with fail
   refine hK.out _ _ ?_ (fun hHeld=>?_)
   ·(try dsimp only);(first | assumption | exact s6 | exact s5)
   clear hK K
   try simp only [Act.put,sA,sB,sC]
   refine tk 3 ⟨some 53,_,_,_,_,_⟩ ?_ rfl (by kernel_rfl) (fun _ _ _ h=>h) (by rfl) ?_ (by assumption) ?_
   rotate_left
   ·intro w hSw;(try dsimp only at hSw);go_simp;(all_goals with_reducible rfl)
   simp only [Act.put,sA,sB,sC]
   refine tk 4 ⟨some 4,_,_,_,_,_⟩ ?_ rfl (by kernel_rfl) (fun _ _ _ h=>h) (by rfl) ?_ (by assumption) ?_
   rotate_left
   ·intro w hSw;(try dsimp only at hSw);go_simp;(all_goals with_reducible rfl)
   simp only [Act.put,sA,sB,sC]
   refine wpAnyH_done (by kernel_rfl) ?_ _
   go_wp2_with fail
   go_ret
   exact⟨ret_bool HR.out.symm,s6.2.2.2.2.2.2.2.2.2.2.2.2.2.2.2.2.2.2.2⟩
  ·have HR:Hid (uniR l lt W H K stp (-1) tx=true):=Lib.hid (by
    have:spB 0 stp tx=true:=by simp [spB];omega
    unfold uniR
    rw [this]
    rfl)
   have CLO:Hid (∀ w,Calls Tryz.prog 110 #[ux sx (K:Int) (-1) tx,.int .i64 0] w fun e w'=>e=.returned (ux sx (K:Int) (-1) tx)∧Kp w w'):=Lib.hid fun w=>by
    have:=losing_hi sx (K:Int) (-1) tx 0 w (by omega) (by omega)
    rw [Int.sub_zero] at this
    exact this
   refine wp_region_held_drew (S:=(fun w'=>cb12 w' (w.heap.size) (.slice At nt ct) (.slice (some ⟨gk,ok,none⟩) nk ck) (.int .i64 a) (.int .i64 b) (.int .i64 c) (.int .i64 d) (.int .i64 e) (.int .i64 W) (.int .i64 H) (x) (r) (y) (cb4 w' (w.heap.size+1) (.int .i64 sx) (.int .i64 (K:Int)) (.int .i64 (-1)) (.int .i64 tx) (cb2 w' 0 (.int .i64 0) (.int .i64 1) (w'.cell? ⟨gk,ok+K*6+3,none⟩=some (.int .i64 stp)∧Kp w w'))))) (by kernel_rfl) ?_ (fun hHeld=>?_)
   ·exact s5
   refine tk 0 ⟨some 50,_,_,_,_,_⟩ ?_ rfl (by kernel_rfl) (fun _ _ _ h=>h) (by rfl) ?_ (by assumption) ?_
   rotate_left
   ·intro w hSw;(try dsimp only at hSw);go_simp;(all_goals with_reducible rfl)
   simp only [Act.put,sA,sB,sC]
   refine tk 1 ⟨some 51,_,_,_,_,_⟩ ?_ rfl (by kernel_rfl) (fun _ _ _ h=>h) (by rfl) ?_ (by assumption) ?_
   rotate_left
   ·intro w hSw;(try dsimp only at hSw);go_simp;(all_goals with_reducible rfl)
   simp only [Act.put,sA,sB,sC]
   refine wpAnyH_ready (rs:=[2]) (by kernel_rfl) (by simp) ?_
   refine AllReadyH.cons (o:=⟨some 52,_,_,_,_,_⟩) rfl (fun K hK=>?_) AllReadyH.nil
   go_simp
   refine(CLO.out _).mono ?_;rintro e6 w6 ⟨rfl,k6⟩;have s6:=keepu19 k6 s5
   go_wp2_with fail
   refine hK.out _ _ ?_ (fun hHeld=>?_)
   ·(try dsimp only);(first | assumption | exact s6 | exact s5)
   clear hK K
   try simp only [Act.put,sA,sB,sC]
   refine tk 3 ⟨some 53,_,_,_,_,_⟩ ?_ rfl (by kernel_rfl) (fun _ _ _ h=>h) (by rfl) ?_ (by assumption) ?_
   rotate_left
   ·intro w hSw;(try dsimp only at hSw);go_simp;(all_goals with_reducible rfl)
   simp only [Act.put,sA,sB,sC]
   refine tk 4 ⟨some 4,_,_,_,_,_⟩ ?_ rfl (by kernel_rfl) (fun _ _ _ h=>h) (by rfl) ?_ (by assumption) ?_
   rotate_left
   ·intro w hSw;(try dsimp only at hSw);go_simp;(all_goals with_reducible rfl)
   simp only [Act.put,sA,sB,sC]
   refine wpAnyH_done (by kernel_rfl) ?_ _
   go_wp2_with fail
   go_ret
   exact⟨ret_bool HR.out.symm,s6.2.2.2.2.2.2.2.2.2.2.2.2.2.2.2.2.2.2.2⟩
 have da:decide (ax=-1)=false:=by simpa using ha
 cases hon:onI W H ax
 ·have HR:Hid (uniR l lt W H K stp ax tx=false):=Lib.hid (by unfold uniR;rw [da,hon,Bool.and_false,Bool.false_and,Bool.or_false,Bool.and_false])
  have CIX:Hid (∀ w,Calls Tryz.prog 103 #[mp W H x r y,.int .i64 ax] w fun e' w'=>e'=.returned (.bool false)∧Kp w w'):=Lib.hid fun w=>by
   have:=isIndex_any W H x r y ax w HP.out.1 HP.out.2.1 HP.out.2.2.1 HP.out.2.2.2
   rw [hon] at this
   exact this
  clear hon da
  refine(onMap_yes _ _ _ _ _ ha).mono ?_
  rintro e4 w4 ⟨rfl,k4⟩
  have s3b:=keepu19 k4 s3
  clear s0 s1 s2 s3
  go_wp2_with fail
  refine(CIX.out _).mono ?_
  rintro e5 w5 ⟨rfl,k5⟩
  have s3c:=keepu19 k5 s3b
  go_wp2_with fail
  go_ret
  exact⟨ret_bool HR.out.symm,s3c.2.2.2.2.2.2.2.2.2.2.2.2.2.2.2.2.2.2.2⟩
 obtain⟨I,rfl,hI⟩:=onI_at hon HLN.out
 have ha':¬ ((I:Int))=-1:=by omega
 have CIX:Hid (∀ w,Calls Tryz.prog 103 #[mp W H x r y,.int .i64 (I:Int)] w fun e' w'=>e'=.returned (.bool true)∧Kp w w'):=Lib.hid fun w=>by
  have:=isIndex_any W H x r y (I:Int) w HP.out.1 HP.out.2.1 HP.out.2.2.1 HP.out.2.2.2
  rw [hon] at this
  exact this
 cases hop:opnB l lt K I
 ·have HR:Hid (uniR l lt W H K stp (I:Int) tx=false):=Lib.hid (by
   have h9:decide (0<costB l lt K ((I:Int)).toNat)=false:=by rw [Int.toNat_natCast];exact hop
   unfold uniR
   rw [h9,da,Bool.and_false,Bool.or_false,Bool.and_false])
  have COP:Hid (∀ w,BrdAt w At (some ⟨gk,ok,none⟩) nt nk l m x r y lt lr ld→Calls Tryz.prog 206 #[bv (.slice At nt ct) (.slice (some ⟨gk,ok,none⟩) nk ck) a b c d e W H x r y,.int .i64 (K:Int),.int .i64 (I:Int)] w fun e' w'=>e'=.returned (.bool false)∧Kp w w'):=Lib.hid fun w h=>by
   have:=isOpen_any At (some ⟨gk,ok,none⟩) nt nk ct ck l m a b c d e W H x r y lt lr ld K I w h HOK.out (by have:=HML.out;omega) hI
   rw [hop] at this
   exact this
  clear hon da hop
  refine(onMap_yes _ _ _ _ _ ha).mono ?_
  rintro e4 w4 ⟨rfl,k4⟩
  have s3b:=keepu19 k4 s3
  clear s0 s1 s2 s3
  go_wp2_with fail
  refine(CIX.out _).mono ?_
  rintro e5 w5 ⟨rfl,k5⟩
  have s3c:=keepu19 k5 s3b
  go_wp2_with fail
  refine(COP.out _ (HB.out.keep s3c.2.2.2.2.2.2.2.2.2.2.2.2.2.2.2.2.2.2.2)).mono ?_
  rintro e5b w5b ⟨rfl,k5b⟩
  have s4:=keepu19 k5b s3c
  clear s3b s3c
  go_wp2_with fail
  go_ret
  exact⟨ret_bool HR.out.symm,s4.2.2.2.2.2.2.2.2.2.2.2.2.2.2.2.2.2.2.2⟩
 have COP:Hid (∀ w,BrdAt w At (some ⟨gk,ok,none⟩) nt nk l m x r y lt lr ld→Calls Tryz.prog 206 #[bv (.slice At nt ct) (.slice (some ⟨gk,ok,none⟩) nk ck) a b c d e W H x r y,.int .i64 (K:Int),.int .i64 (I:Int)] w fun e' w'=>e'=.returned (.bool true)∧Kp w w'):=Lib.hid fun w h=>by
  have:=isOpen_any At (some ⟨gk,ok,none⟩) nt nk ct ck l m a b c d e W H x r y lt lr ld K I w h HOK.out (by have:=HML.out;omega) hI
  rw [hop] at this
  exact this
 have h9:decide (0<costB l lt K ((I:Int)).toNat)=true:=by rw [Int.toNat_natCast];exact hop
 by_cases h4:tx≤0
 ·have HR:Hid (uniR l lt W H K stp (I:Int) tx=false):=Lib.hid (by
   have h8:decide (0<tx)=false:=by simpa using h4
   unfold uniR
   rw [h8,da,Bool.false_and,Bool.false_and,Bool.or_false,Bool.and_false])
  clear hon da hop h9
  refine(onMap_yes _ _ _ _ _ ha).mono ?_
  rintro e4 w4 ⟨rfl,k4⟩
  have s3b:=keepu19 k4 s3
  clear s0 s1 s2 s3
  go_wp2_with fail
  refine(CIX.out _).mono ?_
  rintro e5 w5 ⟨rfl,k5⟩
  have s3c:=keepu19 k5 s3b
  go_wp2_with fail
  refine(COP.out _ (HB.out.keep s3c.2.2.2.2.2.2.2.2.2.2.2.2.2.2.2.2.2.2.2)).mono ?_
  rintro e5b w5b ⟨rfl,k5b⟩
  have s4:=keepu19 k5b s3c
  clear s3b s3c
  go_wp2_with fail
  have s5:=drewu19 s4
  have CLO:Hid (∀ w,Calls Tryz.prog 110 #[ux sx (K:Int) (I:Int) tx,.int .i64 0] w fun e w'=>e=.returned (ux sx (K:Int) (-1) 0)∧Kp w w'):=Lib.hid fun w=>by
   have:=losing_lo sx (K:Int) (I:Int) tx 0 w (by omega) (by omega)
   exact this
  refine wp_region_held_drew (S:=(fun w'=>cb12 w' (w.heap.size) (.slice At nt ct) (.slice (some ⟨gk,ok,none⟩) nk ck) (.int .i64 a) (.int .i64 b) (.int .i64 c) (.int .i64 d) (.int .i64 e) (.int .i64 W) (.int .i64 H) (x) (r) (y) (cb4 w' (w.heap.size+1) (.int .i64 sx) (.int .i64 (K:Int)) (.int .i64 (I:Int)) (.int .i64 tx) (cb2 w' 0 (.int .i64 0) (.int .i64 1) (w'.cell? ⟨gk,ok+K*6+3,none⟩=some (.int .i64 stp)∧Kp w w'))))) (by kernel_rfl) ?_ (fun hHeld=>?_)
  ·exact s5
  refine tk 0 ⟨some 50,_,_,_,_,_⟩ ?_ rfl (by kernel_rfl) (fun _ _ _ h=>h) (by rfl) ?_ (by assumption) ?_
  rotate_left
  ·intro w hSw;(try dsimp only at hSw);go_simp;(all_goals with_reducible rfl)
  simp only [Act.put,sA,sB,sC]
  refine tk 1 ⟨some 51,_,_,_,_,_⟩ ?_ rfl (by kernel_rfl) (fun _ _ _ h=>h) (by rfl) ?_ (by assumption) ?_
  rotate_left
  ·intro w hSw;(try dsimp only at hSw);go_simp;(all_goals with_reducible rfl)
  simp only [Act.put,sA,sB,sC]
  refine wpAnyH_ready (rs:=[2]) (by kernel_rfl) (by simp) ?_
  refine AllReadyH.cons (o:=⟨some 52,_,_,_,_,_⟩) rfl (fun K hK=>?_) AllReadyH.nil
  go_simp
  refine(CLO.out _).mono ?_;rintro e6 w6 ⟨rfl,k6⟩;have s6:=keepu19 k6 s5
  go_wp2_with fail
  refine hK.out _ _ ?_ (fun hHeld=>?_)
  ·(try dsimp only);(first | assumption | exact s6 | exact s5)
  clear hK K
  try simp only [Act.put,sA,sB,sC]
  refine tk 3 ⟨some 53,_,_,_,_,_⟩ ?_ rfl (by kernel_rfl) (fun _ _ _ h=>h) (by rfl) ?_ (by assumption) ?_
  rotate_left
  ·intro w hSw;(try dsimp only at hSw);go_simp;(all_goals with_reducible rfl)
  simp only [Act.put,sA,sB,sC]
  refine tk 4 ⟨some 4,_,_,_,_,_⟩ ?_ rfl (by kernel_rfl) (fun _ _ _ h=>h) (by rfl) ?_ (by assumption) ?_
  rotate_left
  ·intro w hSw;(try dsimp only at hSw);go_simp;(all_goals with_reducible rfl)
  simp only [Act.put,sA,sB,sC]
  refine wpAnyH_done (by kernel_rfl) ?_ _
  go_wp2_with fail
  go_ret
  exact⟨ret_bool HR.out.symm,s6.2.2.2.2.2.2.2.2.2.2.2.2.2.2.2.2.2.2.2⟩
 ·have HR:Hid (uniR l lt W H K stp (I:Int) tx=true):=Lib.hid (by
   have h8:decide (0<tx)=true:=by simpa using h4
   have h7:spB 0 stp tx=true:=by simp [spB];omega
   unfold uniR
   rw [h7,h8,h9,hon,Bool.and_self,Bool.and_self,Bool.or_true,Bool.and_self])
  clear hon da hop h9
  refine(onMap_yes _ _ _ _ _ ha).mono ?_
  rintro e4 w4 ⟨rfl,k4⟩
  have s3b:=keepu19 k4 s3
  clear s0 s1 s2 s3
  go_wp2_with fail
  refine(CIX.out _).mono ?_
  rintro e5 w5 ⟨rfl,k5⟩
  have s3c:=keepu19 k5 s3b
  go_wp2_with fail
  refine(COP.out _ (HB.out.keep s3c.2.2.2.2.2.2.2.2.2.2.2.2.2.2.2.2.2.2.2)).mono ?_
  rintro e5b w5b ⟨rfl,k5b⟩
  have s4:=keepu19 k5b s3c
  clear s3b s3c
  go_wp2_with fail
  have s5:=drewu19 s4
  have CLO:Hid (∀ w,Calls Tryz.prog 110 #[ux sx (K:Int) (I:Int) tx,.int .i64 0] w fun e w'=>e=.returned (ux sx (K:Int) (I:Int) tx)∧Kp w w'):=Lib.hid fun w=>by
   have:=losing_hi sx (K:Int) (I:Int) tx 0 w (by omega) (by omega)
   rw [Int.sub_zero] at this
   exact this
  refine wp_region_held_drew (S:=(fun w'=>cb12 w' (w.heap.size) (.slice At nt ct) (.slice (some ⟨gk,ok,none⟩) nk ck) (.int .i64 a) (.int .i64 b) (.int .i64 c) (.int .i64 d) (.int .i64 e) (.int .i64 W) (.int .i64 H) (x) (r) (y) (cb4 w' (w.heap.size+1) (.int .i64 sx) (.int .i64 (K:Int)) (.int .i64 (I:Int)) (.int .i64 tx) (cb2 w' 0 (.int .i64 0) (.int .i64 1) (w'.cell? ⟨gk,ok+K*6+3,none⟩=some (.int .i64 stp)∧Kp w w'))))) (by kernel_rfl) ?_ (fun hHeld=>?_)
  ·exact s5
  refine tk 0 ⟨some 50,_,_,_,_,_⟩ ?_ rfl (by kernel_rfl) (fun _ _ _ h=>h) (by rfl) ?_ (by assumption) ?_
  rotate_left
  ·intro w hSw;(try dsimp only at hSw);go_simp;(all_goals with_reducible rfl)
  simp only [Act.put,sA,sB,sC]
  refine tk 1 ⟨some 51,_,_,_,_,_⟩ ?_ rfl (by kernel_rfl) (fun _ _ _ h=>h) (by rfl) ?_ (by assumption) ?_
  rotate_left
  ·intro w hSw;(try dsimp only at hSw);go_simp;(all_goals with_reducible rfl)
  simp only [Act.put,sA,sB,sC]
  refine wpAnyH_ready (rs:=[2]) (by kernel_rfl) (by simp) ?_
  refine AllReadyH.cons (o:=⟨some 52,_,_,_,_,_⟩) rfl (fun K hK=>?_) AllReadyH.nil
  go_simp
  refine(CLO.out _).mono ?_;rintro e6 w6 ⟨rfl,k6⟩;have s6:=keepu19 k6 s5
  go_wp2_with fail
  refine hK.out _ _ ?_ (fun hHeld=>?_)
  ·(try dsimp only);(first | assumption | exact s6 | exact s5)
  clear hK K
  try simp only [Act.put,sA,sB,sC]
  refine tk 3 ⟨some 53,_,_,_,_,_⟩ ?_ rfl (by kernel_rfl) (fun _ _ _ h=>h) (by rfl) ?_ (by assumption) ?_
  rotate_left
  ·intro w hSw;(try dsimp only at hSw);go_simp;(all_goals with_reducible rfl)
  simp only [Act.put,sA,sB,sC]
  refine tk 4 ⟨some 4,_,_,_,_,_⟩ ?_ rfl (by kernel_rfl) (fun _ _ _ h=>h) (by rfl) ?_ (by assumption) ?_
  rotate_left
  ·intro w hSw;(try dsimp only at hSw);go_simp;(all_goals with_reducible rfl)
  simp only [Act.put,sA,sB,sC]
  refine wpAnyH_done (by kernel_rfl) ?_ _
  go_wp2_with fail
  go_ret
  exact⟨ret_bool HR.out.symm,s6.2.2.2.2.2.2.2.2.2.2.2.2.2.2.2.2.2.2.2⟩
end Go.Proofs.YtacgknllagdkoaaGreatDoor
