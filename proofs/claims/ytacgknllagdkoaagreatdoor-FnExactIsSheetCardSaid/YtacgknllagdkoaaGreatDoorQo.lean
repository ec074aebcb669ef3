/-
 Texts of this seat in one module: UnK.
-/
import Derived.Deep.Cut
import Derived.Test.YtacgknllagdkoaaGreatDoorQn
/-
 The program's test of a unit and of a state for a board. Nothing that was there is changed. The named variables hold what the program's text lays.
-/
namespace Go.Proofs.YtacgknllagdkoaaGreatDoor
open Go.RowKit
theorem isUnit_any (At Ak:Option Addr) (nt nk ct ck:Nat) (l:List Ter) (m:List Knd) (a b c d e W H:Int) (x r y:Value) (lt lr ld:List Int) (sx kx ax tx:Int) (w:World) (hu:SpU w) (hB:BrdAt w At Ak nt nk l m x r y lt lr ld) (hok:brdOk ⟨l,m,a,b,c,d,e⟩ W H lt lr ld=true) (ht:isI64 tx) :
  Calls Tryz.prog 184 #[bv (.slice At nt ct) (.slice Ak nk ck) a b c d e W H x r y,ux sx kx ax tx] w fun e' w'=>e'=.returned (.bool (uniOk l m W H lt ⟨sx,kx,ax,tx⟩))∧Kp w w':=by
 have hml:=hB.R.rk.1
 cases h1:spB 0 1 sx
 ·have q0:uniOk l m W H lt ⟨sx,kx,ax,tx⟩=false:=by simp [uniOk,h1]
  rw [q0]
  exact isUnit_no1 At Ak nt nk ct ck a b c d e W H x r y sx kx ax tx w hu h1
 cases h2:inB kx nk
 ·have q0:uniOk l m W H lt ⟨sx,kx,ax,tx⟩=false:=by simp [uniOk,hml,h2]
  rw [q0]
  exact isUnit_no2 At Ak nt nk ct ck a b c d e W H x r y sx kx ax tx w hu h1 h2
 obtain⟨K,rfl,hK⟩:=inB_at h2
 obtain⟨gk,ok,rfl,hck⟩:=hB.R.rk.2 (by omega)
 obtain⟨kd,hkd⟩:∃ kd,m[K]?=some kd:=⟨m[K]'(by omega),List.getElem?_eq_getElem _⟩
 obtain⟨_,_,_,q3,_,_⟩:=hck K kd hkd
 have est:stN m (K:Int)=kd.stp:=by unfold stN;rw [Int.toNat_natCast,hkd];rfl
 have e0:uniOk l m W H lt ⟨sx,(K:Int),ax,tx⟩=(spB 0 kd.stp tx && (decide (ax=-1) || ((decide (0<tx) && onI W H ax) && decide (0<costB l lt K ax.toNat)))):=by
  simp only [uniOk,h1,hml,h2,est,Bool.true_and,Int.toNat_natCast]
 rw [e0]
 by_cases h3:kd.stp<tx
 ·have q0:spB 0 kd.stp tx=false:=by simp [spB];omega
  rw [q0,Bool.false_and]
  exact isUnit_no3 At nt nk ct ck l m a b c d e W H x r y lt lr ld gk ok kd.stp sx ax tx K w hu hB h1 hK q3 h3
 exact isUnit_main At nt nk ct ck l m a b c d e W H x r y lt lr ld gk ok kd.stp sx ax tx K w hu hB hok h1 hK q3 (by omega) ht
set_option maxRecDepth 100000 in
set_option maxHeartbeats 4000000 in
theorem isState_no1 (At Ak:Option Addr) (nt nk ct ck:Nat) (a b c d e W H:Int) (x r y:Value) (T Z:Int) (u:Value) (w:World) (hu:SpU w) (h1:spB 0 e T=false) :
  Calls Tryz.prog 135 #[bv (.slice At nt ct) (.slice Ak nk ck) a b c d e W H x r y,sv T Z (u)] w fun e' w'=>e'=.returned (.bool false)∧Kp w w':=by
 have KA:Kp w ((w.alloc (.cells #[.slice At nt ct,.slice Ak nk ck,.int .i64 a,.int .i64 b,.int .i64 c,.int .i64 d,.int .i64 e,.int .i64 W,.int .i64 H,x,r,y] 47)).alloc (.cells #[.int .i64 T,.int .i64 Z,u] 51)):=((Kp.refl w).alloc _).alloc _
 have s00:cb12 ((w.alloc (.cells #[.slice At nt ct,.slice Ak nk ck,.int .i64 a,.int .i64 b,.int .i64 c,.int .i64 d,.int .i64 e,.int .i64 W,.int .i64 H,x,r,y] 47)).alloc (.cells #[.int .i64 T,.int .i64 Z,u] 51)) (w.heap.size) (.slice At nt ct) (.slice Ak nk ck) (.int .i64 a) (.int .i64 b) (.int .i64 c) (.int .i64 d) (.int .i64 e) (.int .i64 W) (.int .i64 H) (x) (r) (y) (cb3 ((w.alloc (.cells #[.slice At nt ct,.slice Ak nk ck,.int .i64 a,.int .i64 b,.int .i64 c,.int .i64 d,.int .i64 e,.int .i64 W,.int .i64 H,x,r,y] 47)).alloc (.cells #[.int .i64 T,.int .i64 Z,u] 51)) (w.heap.size+1) (.int .i64 T) (.int .i64 Z) (u) (cb2 ((w.alloc (.cells #[.slice At nt ct,.slice Ak nk ck,.int .i64 a,.int .i64 b,.int .i64 c,.int .i64 d,.int .i64 e,.int .i64 W,.int .i64 H,x,r,y] 47)).alloc (.cells #[.int .i64 T,.int .i64 Z,u] 51)) 8 (.int .i64 0) (.int .i64 2) (cb2 ((w.alloc (.cells #[.slice At nt ct,.slice Ak nk ck,.int .i64 a,.int .i64 b,.int .i64 c,.int .i64 d,.int .i64 e,.int .i64 W,.int .i64 H,x,r,y] 47)).alloc (.cells #[.int .i64 T,.int .i64 Z,u] 51)) 6 (.int .i64 0) (.int .i64 12) (Kp w ((w.alloc (.cells #[.slice At nt ct,.slice Ak nk ck,.int .i64 a,.int .i64 b,.int .i64 c,.int .i64 d,.int .i64 e,.int .i64 W,.int .i64 H,x,r,y] 47)).alloc (.cells #[.int .i64 T,.int .i64 Z,u] 51)))))):=⟨by simp [go_sem],by simp [go_sem],by simp [go_sem],by simp [go_sem],by simp [go_sem],by simp [go_sem],by simp [go_sem],by simp [go_sem],by simp [go_sem],by simp [go_sem],by simp [go_sem],by simp [go_sem],by simp [go_sem],by simp [go_sem],by simp [go_sem],KA.cell hu.weather.1,KA.cell hu.weather.2,KA.cell hu.units.1,KA.cell hu.units.2,KA⟩
 have kbx:Kp ((w.alloc (.cells #[.slice At nt ct,.slice Ak nk ck,.int .i64 a,.int .i64 b,.int .i64 c,.int .i64 d,.int .i64 e,.int .i64 W,.int .i64 H,x,r,y] 47)).alloc (.cells #[.int .i64 T,.int .i64 Z,u] 51)) (((w.alloc (.cells #[.slice At nt ct,.slice Ak nk ck,.int .i64 a,.int .i64 b,.int .i64 c,.int .i64 d,.int .i64 e,.int .i64 W,.int .i64 H,x,r,y] 47)).alloc (.cells #[.int .i64 T,.int .i64 Z,u] 51)).alloc (.cells #[.int .i64 0,.int .i64 e] 105)):=(Kp.refl _).alloc _
 have s0:=keepu19 kbx s00
 have p0:(((w.alloc (.cells #[.slice At nt ct,.slice Ak nk ck,.int .i64 a,.int .i64 b,.int .i64 c,.int .i64 d,.int .i64 e,.int .i64 W,.int .i64 H,x,r,y] 47)).alloc (.cells #[.int .i64 T,.int .i64 Z,u] 51)).alloc (.cells #[.int .i64 0,.int .i64 e] 105)).cell? ⟨w.heap.size+1+1,0,none⟩=some (.int .i64 0):=by simp [go_sem]
 have p1:(((w.alloc (.cells #[.slice At nt ct,.slice Ak nk ck,.int .i64 a,.int .i64 b,.int .i64 c,.int .i64 d,.int .i64 e,.int .i64 W,.int .i64 H,x,r,y] 47)).alloc (.cells #[.int .i64 T,.int .i64 Z,u] 51)).alloc (.cells #[.int .i64 0,.int .i64 e] 105)).cell? ⟨w.heap.size+1+1,1,none⟩=some (.int .i64 e):=by simp [go_sem]
 have CH1:Hid (∀ w,Calls Tryz.prog 69 #[.agg #[.int .i64 0,.int .i64 e],.int .i64 T] w fun e' w'=>e'=.returned (.bool false)∧Kp w w'):=Lib.hid fun w=>by
  have:=has_any 0 e (T) w
  rw [h1] at this
  exact this
 clear hu KA s00 kbx
 go_enter Tryz.func135,Tryz.ntmps135
 go_wp2_with fail
 generalize ((w.alloc (.cells #[.slice At nt ct,.slice Ak nk ck,.int .i64 a,.int .i64 b,.int .i64 c,.int .i64 d,.int .i64 e,.int .i64 W,.int .i64 H,x,r,y] 47)).alloc (.cells #[.int .i64 T,.int .i64 Z,u] 51)).alloc (.cells #[.int .i64 0,.int .i64 e] 105)=W0 at *
 refine(CH1.out _).mono ?_
 rintro e1 w1 ⟨rfl,k1⟩
 have s1:=keepu19 k1 s0
 clear s0 k1 p0 p1
 go_wp2_with fail
 go_ret
 exact⟨rfl,s1.2.2.2.2.2.2.2.2.2.2.2.2.2.2.2.2.2.2.2⟩
set_option maxRecDepth 100000 in
set_option maxHeartbeats 4000000 in
theorem isState_no2 (At Ak:Option Addr) (nt nk ct ck:Nat) (a b c d e W H:Int) (x r y:Value) (T Z:Int) (u:Value) (w:World) (hu:SpU w) (h1:spB 0 e T=true) (h2:spB 0 2 Z=false) :
  Calls Tryz.prog 135 #[bv (.slice At nt ct) (.slice Ak nk ck) a b c d e W H x r y,sv T Z (u)] w fun e' w'=>e'=.returned (.bool false)∧Kp w w':=by
 have KA:Kp w ((w.alloc (.cells #[.slice At nt ct,.slice Ak nk ck,.int .i64 a,.int .i64 b,.int .i64 c,.int .i64 d,.int .i64 e,.int .i64 W,.int .i64 H,x,r,y] 47)).alloc (.cells #[.int .i64 T,.int .i64 Z,u] 51)):=((Kp.refl w).alloc _).alloc _
 have s00:cb12 ((w.alloc (.cells #[.slice At nt ct,.slice Ak nk ck,.int .i64 a,.int .i64 b,.int .i64 c,.int .i64 d,.int .i64 e,.int .i64 W,.int .i64 H,x,r,y] 47)).alloc (.cells #[.int .i64 T,.int .i64 Z,u] 51)) (w.heap.size) (.slice At nt ct) (.slice Ak nk ck) (.int .i64 a) (.int .i64 b) (.int .i64 c) (.int .i64 d) (.int .i64 e) (.int .i64 W) (.int .i64 H) (x) (r) (y) (cb3 ((w.alloc (.cells #[.slice At nt ct,.slice Ak nk ck,.int .i64 a,.int .i64 b,.int .i64 c,.int .i64 d,.int .i64 e,.int .i64 W,.int .i64 H,x,r,y] 47)).alloc (.cells #[.int .i64 T,.int .i64 Z,u] 51)) (w.heap.size+1) (.int .i64 T) (.int .i64 Z) (u) (cb2 ((w.alloc (.cells #[.slice At nt ct,.slice Ak nk ck,.int .i64 a,.int .i64 b,.int .i64 c,.int .i64 d,.int .i64 e,.int .i64 W,.int .i64 H,x,r,y] 47)).alloc (.cells #[.int .i64 T,.int .i64 Z,u] 51)) 8 (.int .i64 0) (.int .i64 2) (cb2 ((w.alloc (.cells #[.slice At nt ct,.slice Ak nk ck,.int .i64 a,.int .i64 b,.int .i64 c,.int .i64 d,.int .i64 e,.int .i64 W,.int .i64 H,x,r,y] 47)).alloc (.cells #[.int .i64 T,.int .i64 Z,u] 51)) 6 (.int .i64 0) (.int .i64 12) (Kp w ((w.alloc (.cells #[.slice At nt ct,.slice Ak nk ck,.int .i64 a,.int .i64 b,.int .i64 c,.int .i64 d,.int .i64 e,.int .i64 W,.int .i64 H,x,r,y] 47)).alloc (.cells #[.int .i64 T,.int .i64 Z,u] 51)))))):=⟨by simp [go_sem],by simp [go_sem],by simp [go_sem],by simp [go_sem],by simp [go_sem],by simp [go_sem],by simp [go_sem],by simp [go_sem],by simp [go_sem],by simp [go_sem],by simp [go_sem],by simp [go_sem],by simp [go_sem],by simp [go_sem],by simp [go_sem],KA.cell hu.weather.1,KA.cell hu.weather.2,KA.cell hu.units.1,KA.cell hu.units.2,KA⟩
 have kbx:Kp ((w.alloc (.cells #[.slice At nt ct,.slice Ak nk ck,.int .i64 a,.int .i64 b,.int .i64 c,.int .i64 d,.int .i64 e,.int .i64 W,.int .i64 H,x,r,y] 47)).alloc (.cells #[.int .i64 T,.int .i64 Z,u] 51)) (((w.alloc (.cells #[.slice At nt ct,.slice Ak nk ck,.int .i64 a,.int .i64 b,.int .i64 c,.int .i64 d,.int .i64 e,.int .i64 W,.int .i64 H,x,r,y] 47)).alloc (.cells #[.int .i64 T,.int .i64 Z,u] 51)).alloc (.cells #[.int .i64 0,.int .i64 e] 105)):=(Kp.refl _).alloc _
 have s0:=keepu19 kbx s00
 have p0:(((w.alloc (.cells #[.slice At nt ct,.slice Ak nk ck,.int .i64 a,.int .i64 b,.int .i64 c,.int .i64 d,.int .i64 e,.int .i64 W,.int .i64 H,x,r,y] 47)).alloc (.cells #[.int .i64 T,.int .i64 Z,u] 51)).alloc (.cells #[.int .i64 0,.int .i64 e] 105)).cell? ⟨w.heap.size+1+1,0,none⟩=some (.int .i64 0):=by simp [go_sem]
 have p1:(((w.alloc (.cells #[.slice At nt ct,.slice Ak nk ck,.int .i64 a,.int .i64 b,.int .i64 c,.int .i64 d,.int .i64 e,.int .i64 W,.int .i64 H,x,r,y] 47)).alloc (.cells #[.int .i64 T,.int .i64 Z,u] 51)).alloc (.cells #[.int .i64 0,.int .i64 e] 105)).cell? ⟨w.heap.size+1+1,1,none⟩=some (.int .i64 e):=by simp [go_sem]
 have CH1:Hid (∀ w,Calls Tryz.prog 69 #[.agg #[.int .i64 0,.int .i64 e],.int .i64 T] w fun e' w'=>e'=.returned (.bool true)∧Kp w w'):=Lib.hid fun w=>by
  have:=has_any 0 e (T) w
  rw [h1] at this
  exact this
 have CH2:Hid (∀ w,Calls Tryz.prog 69 #[.agg #[.int .i64 0,.int .i64 2],.int .i64 Z] w fun e' w'=>e'=.returned (.bool false)∧Kp w w'):=Lib.hid fun w=>by
  have:=has_any 0 2 (Z) w
  rw [h2] at this
  exact this
 clear hu KA s00 kbx
 go_enter Tryz.func135,Tryz.ntmps135
 go_wp2_with fail
 generalize ((w.alloc (.cells #[.slice At nt ct,.slice Ak nk ck,.int .i64 a,.int .i64 b,.int .i64 c,.int .i64 d,.int .i64 e,.int .i64 W,.int .i64 H,x,r,y] 47)).alloc (.cells #[.int .i64 T,.int .i64 Z,u] 51)).alloc (.cells #[.int .i64 0,.int .i64 e] 105)=W0 at *
 refine(CH1.out _).mono ?_
 rintro e1 w1 ⟨rfl,k1⟩
 have s1:=keepu19 k1 s0
 clear s0 k1 p0 p1
 go_wp2_with fail
 refine(CH2.out _).mono ?_
 rintro e2 w2 ⟨rfl,k2⟩
 have s2:=keepu19 k2 s1
 clear s1 k2
 go_wp2_with fail
 go_ret
 exact⟨rfl,s2.2.2.2.2.2.2.2.2.2.2.2.2.2.2.2.2.2.2.2⟩
set_option maxRecDepth 100000 in
set_option maxHeartbeats 4000000 in
theorem isState_no3 (At Ak:Option Addr) (nt nk ct ck:Nat) (a b c d e W H:Int) (x r y:Value) (T Z:Int) (A:Option Addr) (N cp:Nat) (w:World) (hu:SpU w) (h1:spB 0 e T=true) (h2:spB 0 2 Z=true) (h3:spB 0 12 (N:Int)=false) :
  Calls Tryz.prog 135 #[bv (.slice At nt ct) (.slice Ak nk ck) a b c d e W H x r y,sv T Z (.slice A N cp)] w fun e' w'=>e'=.returned (.bool false)∧Kp w w':=by
 have KA:Kp w ((w.alloc (.cells #[.slice At nt ct,.slice Ak nk ck,.int .i64 a,.int .i64 b,.int .i64 c,.int .i64 d,.int .i64 e,.int .i64 W,.int .i64 H,x,r,y] 47)).alloc (.cells #[.int .i64 T,.int .i64 Z,.slice A N cp] 51)):=((Kp.refl w).alloc _).alloc _
 have s00:cb12 ((w.alloc (.cells #[.slice At nt ct,.slice Ak nk ck,.int .i64 a,.int .i64 b,.int .i64 c,.int .i64 d,.int .i64 e,.int .i64 W,.int .i64 H,x,r,y] 47)).alloc (.cells #[.int .i64 T,.int .i64 Z,.slice A N cp] 51)) (w.heap.size) (.slice At nt ct) (.slice Ak nk ck) (.int .i64 a) (.int .i64 b) (.int .i64 c) (.int .i64 d) (.int .i64 e) (.int .i64 W) (.int .i64 H) (x) (r) (y) (cb3 ((w.alloc (.cells #[.slice At nt ct,.slice Ak nk ck,.int .i64 a,.int .i64 b,.int .i64 c,.int .i64 d,.int .i64 e,.int .i64 W,.int .i64 H,x,r,y] 47)).alloc (.cells #[.int .i64 T,.int .i64 Z,.slice A N cp] 51)) (w.heap.size+1) (.int .i64 T) (.int .i64 Z) (.slice A N cp) (cb2 ((w.alloc (.cells #[.slice At nt ct,.slice Ak nk ck,.int .i64 a,.int .i64 b,.int .i64 c,.int .i64 d,.int .i64 e,.int .i64 W,.int .i64 H,x,r,y] 47)).alloc (.cells #[.int .i64 T,.int .i64 Z,.slice A N cp] 51)) 8 (.int .i64 0) (.int .i64 2) (cb2 ((w.alloc (.cells #[.slice At nt ct,.slice Ak nk ck,.int .i64 a,.int .i64 b,.int .i64 c,.int .i64 d,.int .i64 e,.int .i64 W,.int .i64 H,x,r,y] 47)).alloc (.cells #[.int .i64 T,.int .i64 Z,.slice A N cp] 51)) 6 (.int .i64 0) (.int .i64 12) (Kp w ((w.alloc (.cells #[.slice At nt ct,.slice Ak nk ck,.int .i64 a,.int .i64 b,.int .i64 c,.int .i64 d,.int .i64 e,.int .i64 W,.int .i64 H,x,r,y] 47)).alloc (.cells #[.int .i64 T,.int .i64 Z,.slice A N cp] 51)))))):=⟨by simp [go_sem],by simp [go_sem],by simp [go_sem],by simp [go_sem],by simp [go_sem],by simp [go_sem],by simp [go_sem],by simp [go_sem],by simp [go_sem],by simp [go_sem],by simp [go_sem],by simp [go_sem],by simp [go_sem],by simp [go_sem],by simp [go_sem],KA.cell hu.weather.1,KA.cell hu.weather.2,KA.cell hu.units.1,KA.cell hu.units.2,KA⟩
 have kbx:Kp ((w.alloc (.cells #[.slice At nt ct,.slice Ak nk ck,.int .i64 a,.int .i64 b,.int .i64 c,.int .i64 d,.int .i64 e,.int .i64 W,.int .i64 H,x,r,y] 47)).alloc (.cells #[.int .i64 T,.int .i64 Z,.slice A N cp] 51)) (((w.alloc (.cells #[.slice At nt ct,.slice Ak nk ck,.int .i64 a,.int .i64 b,.int .i64 c,.int .i64 d,.int .i64 e,.int .i64 W,.int .i64 H,x,r,y] 47)).alloc (.cells #[.int .i64 T,.int .i64 Z,.slice A N cp] 51)).alloc (.cells #[.int .i64 0,.int .i64 e] 105)):=(Kp.refl _).alloc _
 have s0:=keepu19 kbx s00
 have p0:(((w.alloc (.cells #[.slice At nt ct,.slice Ak nk ck,.int .i64 a,.int .i64 b,.int .i64 c,.int .i64 d,.int .i64 e,.int .i64 W,.int .i64 H,x,r,y] 47)).alloc (.cells #[.int .i64 T,.int .i64 Z,.slice A N cp] 51)).alloc (.cells #[.int .i64 0,.int .i64 e] 105)).cell? ⟨w.heap.size+1+1,0,none⟩=some (.int .i64 0):=by simp [go_sem]
 have p1:(((w.alloc (.cells #[.slice At nt ct,.slice Ak nk ck,.int .i64 a,.int .i64 b,.int .i64 c,.int .i64 d,.int .i64 e,.int .i64 W,.int .i64 H,x,r,y] 47)).alloc (.cells #[.int .i64 T,.int .i64 Z,.slice A N cp] 51)).alloc (.cells #[.int .i64 0,.int .i64 e] 105)).cell? ⟨w.heap.size+1+1,1,none⟩=some (.int .i64 e):=by simp [go_sem]
 have CH1:Hid (∀ w,Calls Tryz.prog 69 #[.agg #[.int .i64 0,.int .i64 e],.int .i64 T] w fun e' w'=>e'=.returned (.bool true)∧Kp w w'):=Lib.hid fun w=>by
  have:=has_any 0 e (T) w
  rw [h1] at this
  exact this
 have CH2:Hid (∀ w,Calls Tryz.prog 69 #[.agg #[.int .i64 0,.int .i64 2],.int .i64 Z] w fun e' w'=>e'=.returned (.bool true)∧Kp w w'):=Lib.hid fun w=>by
  have:=has_any 0 2 (Z) w
  rw [h2] at this
  exact this
 have CH3:Hid (∀ w,Calls Tryz.prog 69 #[.agg #[.int .i64 0,.int .i64 12],.int .i64 (N:Int)] w fun e' w'=>e'=.returned (.bool false)∧Kp w w'):=Lib.hid fun w=>by
  have:=has_any 0 12 ((N:Int)) w
  rw [h3] at this
  exact this
 clear hu KA s00 kbx
 go_enter Tryz.func135,Tryz.ntmps135
 go_wp2_with fail
 generalize ((w.alloc (.cells #[.slice At nt ct,.slice Ak nk ck,.int .i64 a,.int .i64 b,.int .i64 c,.int .i64 d,.int .i64 e,.int .i64 W,.int .i64 H,x,r,y] 47)).alloc (.cells #[.int .i64 T,.int .i64 Z,.slice A N cp] 51)).alloc (.cells #[.int .i64 0,.int .i64 e] 105)=W0 at *
 refine(CH1.out _).mono ?_
 rintro e1 w1 ⟨rfl,k1⟩
 have s1:=keepu19 k1 s0
 clear s0 k1 p0 p1
 go_wp2_with fail
 refine(CH2.out _).mono ?_
 rintro e2 w2 ⟨rfl,k2⟩
 have s2:=keepu19 k2 s1
 clear s1 k2
 go_wp2_with fail
 refine(CH3.out _).mono ?_
 rintro e3 w3 ⟨rfl,k3⟩
 have s3:=keepu19 k3 s2
 clear s2 k3
 go_wp2_with fail
 go_ret
 exact⟨rfl,s3.2.2.2.2.2.2.2.2.2.2.2.2.2.2.2.2.2.2.2⟩
theorem keepu23 {W0 w w1:World} {p0 p1 p2 p3 p4 p5 p6 p7 p8 p9 p10 p11 p12 p13 p14 p15 p16 p17 p18 p19 p20 p21 p22:Addr} {v0 v1 v2 v3 v4 v5 v6 v7 v8 v9 v10 v11 v12 v13 v14 v15 v16 v17 v18 v19 v20 v21 v22:Value} (k:Kp w w1) (h:w.cell? p0=some v0∧w.cell? p1=some v1∧w.cell? p2=some v2∧w.cell? p3=some v3∧w.cell? p4=some v4∧w.cell? p5=some v5∧w.cell? p6=some v6∧w.cell? p7=some v7∧w.cell? p8=some v8∧w.cell? p9=some v9∧w.cell? p10=some v10∧w.cell? p11=some v11∧w.cell? p12=some v12∧w.cell? p13=some v13∧w.cell? p14=some v14∧w.cell? p15=some v15∧w.cell? p16=some v16∧w.cell? p17=some v17∧w.cell? p18=some v18∧w.cell? p19=some v19∧w.cell? p20=some v20∧w.cell? p21=some v21∧w.cell? p22=some v22∧Kp W0 w):w1.cell? p0=some v0∧w1.cell? p1=some v1∧w1.cell? p2=some v2∧w1.cell? p3=some v3∧w1.cell? p4=some v4∧w1.cell? p5=some v5∧w1.cell? p6=some v6∧w1.cell? p7=some v7∧w1.cell? p8=some v8∧w1.cell? p9=some v9∧w1.cell? p10=some v10∧w1.cell? p11=some v11∧w1.cell? p12=some v12∧w1.cell? p13=some v13∧w1.cell? p14=some v14∧w1.cell? p15=some v15∧w1.cell? p16=some v16∧w1.cell? p17=some v17∧w1.cell? p18=some v18∧w1.cell? p19=some v19∧w1.cell? p20=some v20∧w1.cell? p21=some v21∧w1.cell? p22=some v22∧Kp W0 w1 :=
 ⟨k.cell h.1,k.cell h.2.1,k.cell h.2.2.1,k.cell h.2.2.2.1,k.cell h.2.2.2.2.1,k.cell h.2.2.2.2.2.1,k.cell h.2.2.2.2.2.2.1,k.cell h.2.2.2.2.2.2.2.1,k.cell h.2.2.2.2.2.2.2.2.1,k.cell h.2.2.2.2.2.2.2.2.2.1,k.cell h.2.2.2.2.2.2.2.2.2.2.1,k.cell h.2.2.2.2.2.2.2.2.2.2.2.1,k.cell h.2.2.2.2.2.2.2.2.2.2.2.2.1,k.cell h.2.2.2.2.2.2.2.2.2.2.2.2.2.1,k.cell h.2.2.2.2.2.2.2.2.2.2.2.2.2.2.1,k.cell h.2.2.2.2.2.2.2.2.2.2.2.2.2.2.2.1,k.cell h.2.2.2.2.2.2.2.2.2.2.2.2.2.2.2.2.1,k.cell h.2.2.2.2.2.2.2.2.2.2.2.2.2.2.2.2.2.1,k.cell h.2.2.2.2.2.2.2.2.2.2.2.2.2.2.2.2.2.2.1,k.cell h.2.2.2.2.2.2.2.2.2.2.2.2.2.2.2.2.2.2.2.1,k.cell h.2.2.2.2.2.2.2.2.2.2.2.2.2.2.2.2.2.2.2.2.1,k.cell h.2.2.2.2.2.2.2.2.2.2.2.2.2.2.2.2.2.2.2.2.2.1,k.cell h.2.2.2.2.2.2.2.2.2.2.2.2.2.2.2.2.2.2.2.2.2.2.1,h.2.2.2.2.2.2.2.2.2.2.2.2.2.2.2.2.2.2.2.2.2.2.2.trans k⟩
theorem drewu23 {W0 w:World} {p0 p1 p2 p3 p4 p5 p6 p7 p8 p9 p10 p11 p12 p13 p14 p15 p16 p17 p18 p19 p20 p21 p22:Addr} {v0 v1 v2 v3 v4 v5 v6 v7 v8 v9 v10 v11 v12 v13 v14 v15 v16 v17 v18 v19 v20 v21 v22:Value} (h:w.cell? p0=some v0∧w.cell? p1=some v1∧w.cell? p2=some v2∧w.cell? p3=some v3∧w.cell? p4=some v4∧w.cell? p5=some v5∧w.cell? p6=some v6∧w.cell? p7=some v7∧w.cell? p8=some v8∧w.cell? p9=some v9∧w.cell? p10=some v10∧w.cell? p11=some v11∧w.cell? p12=some v12∧w.cell? p13=some v13∧w.cell? p14=some v14∧w.cell? p15=some v15∧w.cell? p16=some v16∧w.cell? p17=some v17∧w.cell? p18=some v18∧w.cell? p19=some v19∧w.cell? p20=some v20∧w.cell? p21=some v21∧w.cell? p22=some v22∧Kp W0 w):w.drew.cell? p0=some v0∧w.drew.cell? p1=some v1∧w.drew.cell? p2=some v2∧w.drew.cell? p3=some v3∧w.drew.cell? p4=some v4∧w.drew.cell? p5=some v5∧w.drew.cell? p6=some v6∧w.drew.cell? p7=some v7∧w.drew.cell? p8=some v8∧w.drew.cell? p9=some v9∧w.drew.cell? p10=some v10∧w.drew.cell? p11=some v11∧w.drew.cell? p12=some v12∧w.drew.cell? p13=some v13∧w.drew.cell? p14=some v14∧w.drew.cell? p15=some v15∧w.drew.cell? p16=some v16∧w.drew.cell? p17=some v17∧w.drew.cell? p18=some v18∧w.drew.cell? p19=some v19∧w.drew.cell? p20=some v20∧w.drew.cell? p21=some v21∧w.drew.cell? p22=some v22∧Kp W0 w.drew :=
 ⟨h.1,h.2.1,h.2.2.1,h.2.2.2.1,h.2.2.2.2.1,h.2.2.2.2.2.1,h.2.2.2.2.2.2.1,h.2.2.2.2.2.2.2.1,h.2.2.2.2.2.2.2.2.1,h.2.2.2.2.2.2.2.2.2.1,h.2.2.2.2.2.2.2.2.2.2.1,h.2.2.2.2.2.2.2.2.2.2.2.1,h.2.2.2.2.2.2.2.2.2.2.2.2.1,h.2.2.2.2.2.2.2.2.2.2.2.2.2.1,h.2.2.2.2.2.2.2.2.2.2.2.2.2.2.1,h.2.2.2.2.2.2.2.2.2.2.2.2.2.2.2.1,h.2.2.2.2.2.2.2.2.2.2.2.2.2.2.2.2.1,h.2.2.2.2.2.2.2.2.2.2.2.2.2.2.2.2.2.1,h.2.2.2.2.2.2.2.2.2.2.2.2.2.2.2.2.2.2.1,h.2.2.2.2.2.2.2.2.2.2.2.2.2.2.2.2.2.2.2.1,h.2.2.2.2.2.2.2.2.2.2.2.2.2.2.2.2.2.2.2.2.1,h.2.2.2.2.2.2.2.2.2.2.2.2.2.2.2.2.2.2.2.2.2.1,h.2.2.2.2.2.2.2.2.2.2.2.2.2.2.2.2.2.2.2.2.2.2.1,h.2.2.2.2.2.2.2.2.2.2.2.2.2.2.2.2.2.2.2.2.2.2.2.drew⟩
set_option maxRecDepth 100000 in
set_option maxHeartbeats 4000000 in
theorem isState_go (At Ak:Option Addr) (nt nk ct ck:Nat) (l:List Ter) (m:List Knd) (a b c d e W H:Int) (x r y:Value) (lt lr ld:List Int) (T Z:Int) (A:Option Addr) (N cp:Nat) (us:List Uni) (w:World) (hu:SpU w) (hB:BrdAt w At Ak nt nk l m x r y lt lr ld) (hok:brdOk ⟨l,m,a,b,c,d,e⟩ W H lt lr ld=true) (hS:StaAt w (.slice A N cp) us) (hN:us.length=N) (h1:spB 0 e T=true) (h2:spB 0 2 Z=true) (h3:spB 0 12 (N:Int)=true) :
  Calls Tryz.prog 135 #[bv (.slice At nt ct) (.slice Ak nk ck) a b c d e W H x r y,sv T Z (.slice A N cp)] w fun e' w'=>e'=.returned (.bool (us.all (uniOk l m W H lt) && us.all (stkOk us a)))∧Kp w w':=by
 have KA:Kp w ((w.alloc (.cells #[.slice At nt ct,.slice Ak nk ck,.int .i64 a,.int .i64 b,.int .i64 c,.int .i64 d,.int .i64 e,.int .i64 W,.int .i64 H,x,r,y] 47)).alloc (.cells #[.int .i64 T,.int .i64 Z,.slice A N cp] 51)):=((Kp.refl w).alloc _).alloc _
 have s00:cb12 ((w.alloc (.cells #[.slice At nt ct,.slice Ak nk ck,.int .i64 a,.int .i64 b,.int .i64 c,.int .i64 d,.int .i64 e,.int .i64 W,.int .i64 H,x,r,y] 47)).alloc (.cells #[.int .i64 T,.int .i64 Z,.slice A N cp] 51)) (w.heap.size) (.slice At nt ct) (.slice Ak nk ck) (.int .i64 a) (.int .i64 b) (.int .i64 c) (.int .i64 d) (.int .i64 e) (.int .i64 W) (.int .i64 H) (x) (r) (y) (cb3 ((w.alloc (.cells #[.slice At nt ct,.slice Ak nk ck,.int .i64 a,.int .i64 b,.int .i64 c,.int .i64 d,.int .i64 e,.int .i64 W,.int .i64 H,x,r,y] 47)).alloc (.cells #[.int .i64 T,.int .i64 Z,.slice A N cp] 51)) (w.heap.size+1) (.int .i64 T) (.int .i64 Z) (.slice A N cp) (cb2 ((w.alloc (.cells #[.slice At nt ct,.slice Ak nk ck,.int .i64 a,.int .i64 b,.int .i64 c,.int .i64 d,.int .i64 e,.int .i64 W,.int .i64 H,x,r,y] 47)).alloc (.cells #[.int .i64 T,.int .i64 Z,.slice A N cp] 51)) 8 (.int .i64 0) (.int .i64 2) (cb2 ((w.alloc (.cells #[.slice At nt ct,.slice Ak nk ck,.int .i64 a,.int .i64 b,.int .i64 c,.int .i64 d,.int .i64 e,.int .i64 W,.int .i64 H,x,r,y] 47)).alloc (.cells #[.int .i64 T,.int .i64 Z,.slice A N cp] 51)) 6 (.int .i64 0) (.int .i64 12) (Kp w ((w.alloc (.cells #[.slice At nt ct,.slice Ak nk ck,.int .i64 a,.int .i64 b,.int .i64 c,.int .i64 d,.int .i64 e,.int .i64 W,.int .i64 H,x,r,y] 47)).alloc (.cells #[.int .i64 T,.int .i64 Z,.slice A N cp] 51)))))):=⟨by simp [go_sem],by simp [go_sem],by simp [go_sem],by simp [go_sem],by simp [go_sem],by simp [go_sem],by simp [go_sem],by simp [go_sem],by simp [go_sem],by simp [go_sem],by simp [go_sem],by simp [go_sem],by simp [go_sem],by simp [go_sem],by simp [go_sem],KA.cell hu.weather.1,KA.cell hu.weather.2,KA.cell hu.units.1,KA.cell hu.units.2,KA⟩
 have kbx:Kp ((w.alloc (.cells #[.slice At nt ct,.slice Ak nk ck,.int .i64 a,.int .i64 b,.int .i64 c,.int .i64 d,.int .i64 e,.int .i64 W,.int .i64 H,x,r,y] 47)).alloc (.cells #[.int .i64 T,.int .i64 Z,.slice A N cp] 51)) (((w.alloc (.cells #[.slice At nt ct,.slice Ak nk ck,.int .i64 a,.int .i64 b,.int .i64 c,.int .i64 d,.int .i64 e,.int .i64 W,.int .i64 H,x,r,y] 47)).alloc (.cells #[.int .i64 T,.int .i64 Z,.slice A N cp] 51)).alloc (.cells #[.int .i64 0,.int .i64 e] 105)):=(Kp.refl _).alloc _
 have s0:=keepu19 kbx s00
 have p0:(((w.alloc (.cells #[.slice At nt ct,.slice Ak nk ck,.int .i64 a,.int .i64 b,.int .i64 c,.int .i64 d,.int .i64 e,.int .i64 W,.int .i64 H,x,r,y] 47)).alloc (.cells #[.int .i64 T,.int .i64 Z,.slice A N cp] 51)).alloc (.cells #[.int .i64 0,.int .i64 e] 105)).cell? ⟨w.heap.size+1+1,0,none⟩=some (.int .i64 0):=by simp [go_sem]
 have p1:(((w.alloc (.cells #[.slice At nt ct,.slice Ak nk ck,.int .i64 a,.int .i64 b,.int .i64 c,.int .i64 d,.int .i64 e,.int .i64 W,.int .i64 H,x,r,y] 47)).alloc (.cells #[.int .i64 T,.int .i64 Z,.slice A N cp] 51)).alloc (.cells #[.int .i64 0,.int .i64 e] 105)).cell? ⟨w.heap.size+1+1,1,none⟩=some (.int .i64 e):=by simp [go_sem]
 have CH1:Hid (∀ w,Calls Tryz.prog 69 #[.agg #[.int .i64 0,.int .i64 e],.int .i64 T] w fun e' w'=>e'=.returned (.bool true)∧Kp w w'):=Lib.hid fun w=>by
  have:=has_any 0 e (T) w
  rw [h1] at this
  exact this
 have CH2:Hid (∀ w,Calls Tryz.prog 69 #[.agg #[.int .i64 0,.int .i64 2],.int .i64 Z] w fun e' w'=>e'=.returned (.bool true)∧Kp w w'):=Lib.hid fun w=>by
  have:=has_any 0 2 (Z) w
  rw [h2] at this
  exact this
 have CH3:Hid (∀ w,Calls Tryz.prog 69 #[.agg #[.int .i64 0,.int .i64 12],.int .i64 (N:Int)] w fun e' w'=>e'=.returned (.bool true)∧Kp w w'):=Lib.hid fun w=>by
  have:=has_any 0 12 ((N:Int)) w
  rw [h3] at this
  exact this
 have hn12:N≤12:=by simp [spB] at h3;omega
 have HN:=Lib.hid hN
 have HU:=Lib.hid hu
 have HB:=Lib.hid hB
 have HST:=Lib.hid hS
 have HA:Hid (0<N→∃ g off,A=some ⟨g,off,none⟩∧∀ i x,us[i]?=some x→UniAt w g (off+i*4) x):=Lib.hid (by
  obtain⟨A',c',e',h'⟩:=hS.rd
  simp only [Value.slice.injEq] at e'
  obtain⟨rfl,_,rfl⟩:=e'
  rw [hN] at h'
  exact h')
 have HT:Hid (∀ x ∈ us,isI64 x.t):=Lib.hid fun x hx=>(hS.i x hx).2.2.2
 obtain⟨f,hf⟩:∃ f:Uni→Bool,f=uniOk l m W H lt:=⟨_,rfl⟩
 obtain⟨g2,hg2⟩:∃ f:Uni→Bool,f=stkOk us a:=⟨_,rfl⟩
 have CU:Hid (∀ (sx kx ax tx:Int) (w:World),SpU w→BrdAt w At Ak nt nk l m x r y lt lr ld→isI64 tx→Calls Tryz.prog 184 #[bv (.slice At nt ct) (.slice Ak nk ck) a b c d e W H x r y,ux sx kx ax tx] w fun e' w'=>e'=.returned (.bool (f ⟨sx,kx,ax,tx⟩))∧Kp w w'):=Lib.hid fun sx kx ax tx w h h' h''=>by
  rw [hf]
  exact isUnit_any At Ak nt nk ct ck l m a b c d e W H x r y lt lr ld sx kx ax tx w h h' hok h''
 have FS:Hid (us.all f=true→∀ x ∈ us,x.s=0∨x.s=1):=Lib.hid fun h x hx=>by
  rw [List.all_eq_true] at h
  have:=h x hx
  rw [hf] at this
  exact(uniOk_side this).1
 have FG:Hid (∀ (j:Nat) (x:Uni),us[j]?=some x→(x.s=0∨x.s=1)→(decide (x.a=-1) || stkP a (cntS us x.a 0 us.length) (cntS us x.a 1 us.length))=g2 x):=Lib.hid fun j x hx hs=>by
  rw [hg2]
  exact stk_eq hx hs
 rw [← hf,← hg2]
 obtain⟨R1,hR1⟩:∃ R,R=us.all f:=⟨_,rfl⟩
 obtain⟨R2,hR2⟩:∃ R,R=us.all g2:=⟨_,rfl⟩
 rw [← hR1] at FS
 have ED1:Hid ((us.drop 0).all f=R1):=Lib.hid hR1.symm
 have ED2:Hid ((us.drop 0).all g2=R2):=Lib.hid hR2.symm
 rw [← hR1,← hR2]
 clear hu hB hok hS hN h1 h2 h3 hf hg2 hR1 hR2 KA s00 kbx
 go_enter Tryz.func135,Tryz.ntmps135
 go_wp2_with fail
 generalize ((w.alloc (.cells #[.slice At nt ct,.slice Ak nk ck,.int .i64 a,.int .i64 b,.int .i64 c,.int .i64 d,.int .i64 e,.int .i64 W,.int .i64 H,x,r,y] 47)).alloc (.cells #[.int .i64 T,.int .i64 Z,.slice A N cp] 51)).alloc (.cells #[.int .i64 0,.int .i64 e] 105)=W0 at *
 refine(CH1.out _).mono ?_
 rintro e1 w1 ⟨rfl,k1⟩
 have s1:=keepu19 k1 s0
 clear s0 k1 p0 p1
 go_wp2_with fail
 refine(CH2.out _).mono ?_
 rintro e2 w2 ⟨rfl,k2⟩
 have s2:=keepu19 k2 s1
 clear s1 k2
 go_wp2_with fail
 refine(CH3.out _).mono ?_
 rintro e3 w3 ⟨rfl,k3⟩
 have s3:=keepu19 k3 s2
 clear s2 k3
 go_wp2_with fail
 go_loopw [37] (fun iq wx=>∃ q:Nat,q≤N∧iq=.int .i64 q∧Hid ((us.drop q).all f=R1)∧cb12 wx (w.heap.size) (.slice At nt ct) (.slice Ak nk ck) (.int .i64 a) (.int .i64 b) (.int .i64 c) (.int .i64 d) (.int .i64 e) (.int .i64 W) (.int .i64 H) (x) (r) (y) (cb3 wx (w.heap.size+1) (.int .i64 T) (.int .i64 Z) (.slice A N cp) (cb2 wx 8 (.int .i64 0) (.int .i64 2) (cb2 wx 6 (.int .i64 0) (.int .i64 12) (Kp w wx))))) (fun iq _=>N - (intOf iq).toNat)
 case atStart=>exact⟨0,by omega,rfl,ED1,s3⟩
 case round =>
  clear s3 ED1
  obtain⟨q,hq,rfl,hE,sr⟩:=hrel
  by_cases hlt:q<N
  ·have hlt':(q:Int)<N:=by omega
   obtain⟨g,off,rfl,hc⟩:=HA.out (by omega)
   obtain⟨sx,kx,ax,tx,hx⟩:=uni_get HN.out hlt
   obtain⟨a0,a1,a2,a3⟩:=(hc q _ hx).keep sr.2.2.2.2.2.2.2.2.2.2.2.2.2.2.2.2.2.2.2
   have HTX:=Lib.hid (HT.out _ (List.mem_of_getElem? hx))
   have HX:=Lib.hid (drop_step hx)
   simp only at a0 a1 a2 a3
   clear hc hx
   have kbw:Kp wr (wr.alloc (.cells #[.int .i64 sx,.int .i64 kx,.int .i64 ax,.int .i64 tx] 152)):=(Kp.refl wr).alloc _
   have s4:=keepu19 kbw sr
   have hz0:=cell_lt sr.1
   have hz1:=cell_lt sr.2.2.2.2.2.2.2.2.2.2.2.2.1
   have CX:=Lib.hid (CU.out sx kx ax tx _ (HU.out.keep s4.2.2.2.2.2.2.2.2.2.2.2.2.2.2.2.2.2.2.2) (HB.out.keep s4.2.2.2.2.2.2.2.2.2.2.2.2.2.2.2.2.2.2.2) HTX.out)
   cases hfx:f ⟨sx,kx,ax,tx⟩
   ·rw [hfx] at CX
    have HR1:Hid (R1=false):=Lib.hid (by rw [← hE.out,HX.out,List.all_cons,hfx,Bool.false_and])
    clear s4 kbw hfx
    go_wp2_with fail
    refine CX.out.mono ?_
    rintro e5 w5 ⟨rfl,k5⟩
    go_wp2_with fail
    go_ret
    exact⟨ret_bool (by rw [HR1.out,Bool.false_and]),(sr.2.2.2.2.2.2.2.2.2.2.2.2.2.2.2.2.2.2.2.alloc _).trans k5⟩
   ·rw [hfx] at CX
    have HE2:Hid ((us.drop (q+1)).all f=R1):=Lib.hid (by rw [← hE.out,HX.out,List.all_cons,hfx,Bool.true_and])
    clear hfx
    go_wp2_with fail
    refine CX.out.mono ?_
    rintro e5 w5 ⟨rfl,k5⟩
    have s5:=keepu19 k5 s4
    clear s4 k5 kbw
    go_wp2_with fail
    go_roundw
    case rel=>exact⟨q+1,by omega,by go_num,HE2,s5⟩
    case measure=>simp [intOf];omega
  ·obtain rfl:q=N:=by omega
   have HR1:Hid (R1=true):=Lib.hid (by
    rw [← hE.out,List.drop_of_length_le (by rw [HN.out];omega)]
    rfl)
   have HSD:=Lib.hid (FS.out HR1.out)
   clear hE
   go_wp2_with fail
   go_loopw [49] (fun iq wx=>∃ k:Nat,k≤q∧iq=.int .i64 k∧Hid ((us.drop k).all g2=R2)∧cb12 wx (w.heap.size) (.slice At nt ct) (.slice Ak nk ck) (.int .i64 a) (.int .i64 b) (.int .i64 c) (.int .i64 d) (.int .i64 e) (.int .i64 W) (.int .i64 H) (x) (r) (y) (cb3 wx (w.heap.size+1) (.int .i64 T) (.int .i64 Z) (.slice A q cp) (cb2 wx 8 (.int .i64 0) (.int .i64 2) (cb2 wx 6 (.int .i64 0) (.int .i64 12) (Kp w wx))))) (fun iq _=>q - (intOf iq).toNat)
   case atStart=>exact⟨0,by omega,rfl,ED2,sr⟩
   case round =>
    clear sr ED2
    obtain⟨k,hkq,rfl,hE,sr⟩:=hrel
    by_cases hlt:k<q
    ·have hlt':(k:Int)<q:=by omega
     obtain⟨g,off,rfl,hc⟩:=HA.out (by omega)
     obtain⟨sx,kx,ax,tx,hx⟩:=uni_get HN.out hlt
     obtain⟨a0,a1,a2,a3⟩:=(hc k _ hx).keep sr.2.2.2.2.2.2.2.2.2.2.2.2.2.2.2.2.2.2.2
     have HX:=Lib.hid (drop_step hx)
     have hsd:=HSD.out _ (List.mem_of_getElem? hx)
     have HG:=Lib.hid (FG.out k _ hx hsd)
     have hz0:=cell_lt sr.1
     have hz1:=cell_lt sr.2.2.2.2.2.2.2.2.2.2.2.2.1
     obtain⟨c0,e0⟩:∃ z,cntS us ax 0 us.length=z:=⟨_,rfl⟩
     obtain⟨c1,e1⟩:∃ z,cntS us ax 1 us.length=z:=⟨_,rfl⟩
     have b0:=(cntS_bd us ax 0 us.length).1
     have b1:=(cntS_bd us ax 1 us.length).1
     simp only at a0 a1 a2 a3 HG
     rw [e0] at b0 HG
     rw [e1] at b1 HG
     have CC:Hid (∀ w,StaAt w (.slice (some ⟨g,off,none⟩) q cp) us→Calls Tryz.prog 186 #[sv T Z (.slice (some ⟨g,off,none⟩) q cp),.int .i64 ax] w fun e w'=>e=.returned (.agg #[.int .i64 c0,.int .i64 c1])∧Kp w w'):=Lib.hid fun w h=>by
      have:=countsAt_any T Z _ us ax w h HSD.out (by rw [HN.out];exact hn12)
      rw [e0,e1] at this
      exact this
     have CSK:Hid (∀ w,Calls Tryz.prog 185 #[rv (.slice At nt ct) (.slice Ak nk ck) a b c d e,.agg #[.int .i64 c0,.int .i64 c1]] w fun e' w'=>e'=.returned (.bool (stkP a c0 c1))∧Kp w w'):=Lib.hid fun w=>isStack_any _ _ a b c d e c0 c1 w b0 b1
     clear hc hx e0 e1 hsd
     by_cases ha:ax=-1
     ·subst ha
      have HE2:Hid ((us.drop (k+1)).all g2=R2):=Lib.hid (by rw [← hE.out,HX.out,List.all_cons,← HG.out];simp)
      go_upto_region 13 with (fail)
      have kbw:Kp wr (wr.alloc (.cells #[.int .i64 sx,.int .i64 kx,.int .i64 (-1),.int .i64 tx] 152)):=(Kp.refl wr).alloc _
      have s4:cb12 (wr.alloc (.cells #[.int .i64 sx,.int .i64 kx,.int .i64 (-1),.int .i64 tx] 152)) (w.heap.size) (.slice At nt ct) (.slice Ak nk ck) (.int .i64 a) (.int .i64 b) (.int .i64 c) (.int .i64 d) (.int .i64 e) (.int .i64 W) (.int .i64 H) (x) (r) (y) (cb3 (wr.alloc (.cells #[.int .i64 sx,.int .i64 kx,.int .i64 (-1),.int .i64 tx] 152)) (w.heap.size+1) (.int .i64 T) (.int .i64 Z) (.slice (some ⟨g,off,none⟩) q cp) (cb2 (wr.alloc (.cells #[.int .i64 sx,.int .i64 kx,.int .i64 (-1),.int .i64 tx] 152)) 8 (.int .i64 0) (.int .i64 2) (cb2 (wr.alloc (.cells #[.int .i64 sx,.int .i64 kx,.int .i64 (-1),.int .i64 tx] 152)) 6 (.int .i64 0) (.int .i64 12) (cb4 (wr.alloc (.cells #[.int .i64 sx,.int .i64 kx,.int .i64 (-1),.int .i64 tx] 152)) (wr.heap.size) (.int .i64 sx) (.int .i64 kx) (.int .i64 (-1)) (.int .i64 tx) (Kp w (wr.alloc (.cells #[.int .i64 sx,.int .i64 kx,.int .i64 (-1),.int .i64 tx] 152))))))):=⟨kbw.cell sr.1,kbw.cell sr.2.1,kbw.cell sr.2.2.1,kbw.cell sr.2.2.2.1,kbw.cell sr.2.2.2.2.1,kbw.cell sr.2.2.2.2.2.1,kbw.cell sr.2.2.2.2.2.2.1,kbw.cell sr.2.2.2.2.2.2.2.1,kbw.cell sr.2.2.2.2.2.2.2.2.1,kbw.cell sr.2.2.2.2.2.2.2.2.2.1,kbw.cell sr.2.2.2.2.2.2.2.2.2.2.1,kbw.cell sr.2.2.2.2.2.2.2.2.2.2.2.1,kbw.cell sr.2.2.2.2.2.2.2.2.2.2.2.2.1,kbw.cell sr.2.2.2.2.2.2.2.2.2.2.2.2.2.1,kbw.cell sr.2.2.2.2.2.2.2.2.2.2.2.2.2.2.1,kbw.cell sr.2.2.2.2.2.2.2.2.2.2.2.2.2.2.2.1,kbw.cell sr.2.2.2.2.2.2.2.2.2.2.2.2.2.2.2.2.1,kbw.cell sr.2.2.2.2.2.2.2.2.2.2.2.2.2.2.2.2.2.1,kbw.cell sr.2.2.2.2.2.2.2.2.2.2.2.2.2.2.2.2.2.2.1,by simp [go_sem],by simp [go_sem],by simp [go_sem],by simp [go_sem],sr.2.2.2.2.2.2.2.2.2.2.2.2.2.2.2.2.2.2.2.trans kbw⟩
      generalize wr.alloc (.cells #[.int .i64 sx,.int .i64 kx,.int .i64 (-1),.int .i64 tx] 152)=W1 at *
      have s5:=drewu23 s4
      refine wp_region_held_drew (S:=(fun w'=>cb12 w' (w.heap.size) (.slice At nt ct) (.slice Ak nk ck) (.int .i64 a) (.int .i64 b) (.int .i64 c) (.int .i64 d) (.int .i64 e) (.int .i64 W) (.int .i64 H) (x) (r) (y) (cb3 w' (w.heap.size+1) (.int .i64 T) (.int .i64 Z) (.slice (some ⟨g,off,none⟩) q cp) (cb2 w' 8 (.int .i64 0) (.int .i64 2) (cb2 w' 6 (.int .i64 0) (.int .i64 12) (cb4 w' (wr.heap.size) (.int .i64 sx) (.int .i64 kx) (.int .i64 (-1)) (.int .i64 tx) (Kp w w'))))))) (by kernel_rfl) ?_ (fun hHeld=>?_)
      ·exact s5
      refine tk 0 ⟨some 53,_,_,_,_,_⟩ ?_ rfl (by kernel_rfl) (fun _ _ _ h=>h) (by rfl) ?_ (by assumption) ?_
      rotate_left
      ·intro w hSw;(try dsimp only at hSw);go_simp;(all_goals with_reducible rfl)
      simp only [Act.put,sA,sB,sC]
      refine wpAnyH_ready (rs:=[1]) (by kernel_rfl) (by simp) ?_
      refine AllReadyH.cons (o:=⟨some 54,_,_,_,_,_⟩) rfl (fun K hK=>?_) AllReadyH.nil
      go_simp
      refine(onMap_no _ _ _ _).mono ?_;rintro e6 w6 ⟨rfl,k6⟩;have s6:=keepu23 k6 s5
      go_wp2_with fail
      refine hK.out _ _ ?_ (fun hHeld=>?_)
      ·(try dsimp only);(first | assumption | exact s6 | exact s5)
      clear hK K
      try simp only [Act.put,sA,sB,sC]
      refine tk 2 ⟨some 55,_,_,_,_,_⟩ ?_ rfl (by kernel_rfl) (fun _ _ _ h=>h) (by rfl) ?_ (by assumption) ?_
      rotate_left
      ·intro w hSw;(try dsimp only at hSw);go_simp;(all_goals with_reducible rfl)
      simp only [Act.put,sA,sB,sC]
      refine tn 3 ⟨some 56,_,_,_,_,_⟩ rfl (by kernel_rfl) (fun _ _ _ h=>h) (by rfl) (by assumption) ?_
      simp only [Act.put,sA,sB,sC]
      refine tn 4 ⟨some 57,_,_,_,_,_⟩ rfl (by kernel_rfl) (fun _ _ _ h=>h) (by rfl) (by assumption) ?_
      simp only [Act.put,sA,sB,sC]
      refine tn 5 ⟨some 58,_,_,_,_,_⟩ rfl (by kernel_rfl) (fun _ _ _ h=>h) (by rfl) (by assumption) ?_
      simp only [Act.put,sA,sB,sC]
      refine tn 6 ⟨some 59,_,_,_,_,_⟩ rfl (by kernel_rfl) (fun _ _ _ h=>h) (by rfl) (by assumption) ?_
      simp only [Act.put,sA,sB,sC]
      refine tn 7 ⟨some 60,_,_,_,_,_⟩ rfl (by kernel_rfl) (fun _ _ _ h=>h) (by rfl) (by assumption) ?_
      simp only [Act.put,sA,sB,sC]
      refine wpAnyH_ready (rs:=[8]) (by kernel_rfl) (by simp) ?_
      refine AllReadyH.cons (o:=⟨some 61,_,_,_,_,_⟩) rfl (fun K hK=>?_) AllReadyH.nil
      go_simp
      refine hK.out _ _ ?_ (fun hHeld=>?_)
      ·(try dsimp only);(first | assumption | exact s6 | exact s5)
      clear hK K
      try simp only [Act.put,sA,sB,sC]
      refine wpAnyH_ready (rs:=[9]) (by kernel_rfl) (by simp) ?_
      refine AllReadyH.cons (o:=⟨some 62,_,_,_,_,_⟩) rfl (fun K hK=>?_) AllReadyH.nil
      go_simp
      refine hK.out _ _ ?_ (fun hHeld=>?_)
      ·(try dsimp only);(first | assumption | exact s6 | exact s5)
      clear hK K
      try simp only [Act.put,sA,sB,sC]
      refine tn 10 ⟨some 63,_,_,_,_,_⟩ rfl (by kernel_rfl) (fun _ _ _ h=>h) (by rfl) (by assumption) ?_
      simp only [Act.put,sA,sB,sC]
      refine tk 11 ⟨some 64,_,_,_,_,_⟩ ?_ rfl (by kernel_rfl) (fun _ _ _ h=>h) (by rfl) ?_ (by assumption) ?_
      rotate_left
      ·intro w hSw;(try dsimp only at hSw);go_simp;(all_goals with_reducible rfl)
      simp only [Act.put,sA,sB,sC]
      refine wpAnyH_done (by kernel_rfl) ?_ _
      go_wp2_with fail
      have sx9:cb12 w6 (w.heap.size) (.slice At nt ct) (.slice Ak nk ck) (.int .i64 a) (.int .i64 b) (.int .i64 c) (.int .i64 d) (.int .i64 e) (.int .i64 W) (.int .i64 H) (x) (r) (y) (cb3 w6 (w.heap.size+1) (.int .i64 T) (.int .i64 Z) (.slice (some ⟨g,off,none⟩) q cp) (cb2 w6 8 (.int .i64 0) (.int .i64 2) (cb2 w6 6 (.int .i64 0) (.int .i64 12) (Kp w w6)))):=⟨s6.1,s6.2.1,s6.2.2.1,s6.2.2.2.1,s6.2.2.2.2.1,s6.2.2.2.2.2.1,s6.2.2.2.2.2.2.1,s6.2.2.2.2.2.2.2.1,s6.2.2.2.2.2.2.2.2.1,s6.2.2.2.2.2.2.2.2.2.1,s6.2.2.2.2.2.2.2.2.2.2.1,s6.2.2.2.2.2.2.2.2.2.2.2.1,s6.2.2.2.2.2.2.2.2.2.2.2.2.1,s6.2.2.2.2.2.2.2.2.2.2.2.2.2.1,s6.2.2.2.2.2.2.2.2.2.2.2.2.2.2.1,s6.2.2.2.2.2.2.2.2.2.2.2.2.2.2.2.1,s6.2.2.2.2.2.2.2.2.2.2.2.2.2.2.2.2.1,s6.2.2.2.2.2.2.2.2.2.2.2.2.2.2.2.2.2.1,s6.2.2.2.2.2.2.2.2.2.2.2.2.2.2.2.2.2.2.1,s6.2.2.2.2.2.2.2.2.2.2.2.2.2.2.2.2.2.2.2.2.2.2.2⟩
      go_roundw
      case rel=>exact⟨k+1,by omega,by go_num,HE2,sx9⟩
      case measure=>simp [intOf];omega
     ·have da:decide (ax=-1)=false:=by simpa using ha
      rw [da,Bool.false_or] at HG
      clear da
      cases hg:stkP a c0 c1
      ·rw [hg] at CSK HG
       have HR2:Hid (R2=false):=Lib.hid (by rw [← hE.out,HX.out,List.all_cons,← HG.out,Bool.false_and])
       clear hg
       go_upto_region 13 with (fail)
       have kbw:Kp wr (wr.alloc (.cells #[.int .i64 sx,.int .i64 kx,.int .i64 ax,.int .i64 tx] 152)):=(Kp.refl wr).alloc _
       have s4:cb12 (wr.alloc (.cells #[.int .i64 sx,.int .i64 kx,.int .i64 ax,.int .i64 tx] 152)) (w.heap.size) (.slice At nt ct) (.slice Ak nk ck) (.int .i64 a) (.int .i64 b) (.int .i64 c) (.int .i64 d) (.int .i64 e) (.int .i64 W) (.int .i64 H) (x) (r) (y) (cb3 (wr.alloc (.cells #[.int .i64 sx,.int .i64 kx,.int .i64 ax,.int .i64 tx] 152)) (w.heap.size+1) (.int .i64 T) (.int .i64 Z) (.slice (some ⟨g,off,none⟩) q cp) (cb2 (wr.alloc (.cells #[.int .i64 sx,.int .i64 kx,.int .i64 ax,.int .i64 tx] 152)) 8 (.int .i64 0) (.int .i64 2) (cb2 (wr.alloc (.cells #[.int .i64 sx,.int .i64 kx,.int .i64 ax,.int .i64 tx] 152)) 6 (.int .i64 0) (.int .i64 12) (cb4 (wr.alloc (.cells #[.int .i64 sx,.int .i64 kx,.int .i64 ax,.int .i64 tx] 152)) (wr.heap.size) (.int .i64 sx) (.int .i64 kx) (.int .i64 ax) (.int .i64 tx) (Kp w (wr.alloc (.cells #[.int .i64 sx,.int .i64 kx,.int .i64 ax,.int .i64 tx] 152))))))):=⟨kbw.cell sr.1,kbw.cell sr.2.1,kbw.cell sr.2.2.1,kbw.cell sr.2.2.2.1,kbw.cell sr.2.2.2.2.1,kbw.cell sr.2.2.2.2.2.1,kbw.cell sr.2.2.2.2.2.2.1,kbw.cell sr.2.2.2.2.2.2.2.1,kbw.cell sr.2.2.2.2.2.2.2.2.1,kbw.cell sr.2.2.2.2.2.2.2.2.2.1,kbw.cell sr.2.2.2.2.2.2.2.2.2.2.1,kbw.cell sr.2.2.2.2.2.2.2.2.2.2.2.1,kbw.cell sr.2.2.2.2.2.2.2.2.2.2.2.2.1,kbw.cell sr.2.2.2.2.2.2.2.2.2.2.2.2.2.1,kbw.cell sr.2.2.2.2.2.2.2.2.2.2.2.2.2.2.1,kbw.cell sr.2.2.2.2.2.2.2.2.2.2.2.2.2.2.2.1,kbw.cell sr.2.2.2.2.2.2.2.2.2.2.2.2.2.2.2.2.1,kbw.cell sr.2.2.2.2.2.2.2.2.2.2.2.2.2.2.2.2.2.1,kbw.cell sr.2.2.2.2.2.2.2.2.2.2.2.2.2.2.2.2.2.2.1,by simp [go_sem],by simp [go_sem],by simp [go_sem],by simp [go_sem],sr.2.2.2.2.2.2.2.2.2.2.2.2.2.2.2.2.2.2.2.trans kbw⟩
       generalize wr.alloc (.cells #[.int .i64 sx,.int .i64 kx,.int .i64 ax,.int .i64 tx] 152)=W1 at *
       have s5:=drewu23 s4
       refine wp_region_held_drew (S:=(fun w'=>cb12 w' (w.heap.size) (.slice At nt ct) (.slice Ak nk ck) (.int .i64 a) (.int .i64 b) (.int .i64 c) (.int .i64 d) (.int .i64 e) (.int .i64 W) (.int .i64 H) (x) (r) (y) (cb3 w' (w.heap.size+1) (.int .i64 T) (.int .i64 Z) (.slice (some ⟨g,off,none⟩) q cp) (cb2 w' 8 (.int .i64 0) (.int .i64 2) (cb2 w' 6 (.int .i64 0) (.int .i64 12) (cb4 w' (wr.heap.size) (.int .i64 sx) (.int .i64 kx) (.int .i64 ax) (.int .i64 tx) (Kp w w'))))))) (by kernel_rfl) ?_ (fun hHeld=>?_)
       ·exact s5
       refine tk 0 ⟨some 53,_,_,_,_,_⟩ ?_ rfl (by kernel_rfl) (fun _ _ _ h=>h) (by rfl) ?_ (by assumption) ?_
       rotate_left
       ·intro w hSw;(try dsimp only at hSw);go_simp;(all_goals with_reducible rfl)
       simp only [Act.put,sA,sB,sC]
       refine wpAnyH_ready (rs:=[1]) (by kernel_rfl) (by simp) ?_
       refine AllReadyH.cons (o:=⟨some 54,_,_,_,_,_⟩) rfl (fun K hK=>?_) AllReadyH.nil
       go_simp
       refine(onMap_yes _ _ _ _ _ ha).mono ?_;rintro e6 w6 ⟨rfl,k6⟩;have s6:=keepu23 k6 s5
       go_wp2_with fail
       refine hK.out _ _ ?_ (fun hHeld=>?_)
       ·(try dsimp only);(first | assumption | exact s8 | exact s7 | exact s6 | exact s5)
       clear hK K
       try simp only [Act.put,sA,sB,sC]
       refine tk 2 ⟨some 55,_,_,_,_,_⟩ ?_ rfl (by kernel_rfl) (fun _ _ _ h=>h) (by rfl) ?_ (by assumption) ?_
       rotate_left
       ·intro w hSw;(try dsimp only at hSw);go_simp;(all_goals with_reducible rfl)
       simp only [Act.put,sA,sB,sC]
       refine tk 3 ⟨some 56,_,_,_,_,_⟩ ?_ rfl (by kernel_rfl) (fun _ _ _ h=>h) (by rfl) ?_ (by assumption) ?_
       rotate_left
       ·intro w hSw;(try dsimp only at hSw);go_simp;(all_goals with_reducible rfl)
       simp only [Act.put,sA,sB,sC]
       refine tk 4 ⟨some 57,_,_,_,_,_⟩ ?_ rfl (by kernel_rfl) (fun _ _ _ h=>h) (by rfl) ?_ (by assumption) ?_
       rotate_left
       ·intro w hSw;(try dsimp only at hSw);go_simp;(all_goals with_reducible rfl)
       simp only [Act.put,sA,sB,sC]
       refine tk 5 ⟨some 58,_,_,_,_,_⟩ ?_ rfl (by kernel_rfl) (fun _ _ _ h=>h) (by rfl) ?_ (by assumption) ?_
       rotate_left
       ·intro w hSw;(try dsimp only at hSw);go_simp;(all_goals with_reducible rfl)
       simp only [Act.put,sA,sB,sC]
       refine tk 6 ⟨some 59,_,_,_,_,_⟩ ?_ rfl (by kernel_rfl) (fun _ _ _ h=>h) (by rfl) ?_ (by assumption) ?_
       rotate_left
       ·intro w hSw;(try dsimp only at hSw);go_simp;(all_goals with_reducible rfl)
       simp only [Act.put,sA,sB,sC]
       refine tk 7 ⟨some 60,_,_,_,_,_⟩ ?_ rfl (by kernel_rfl) (fun _ _ _ h=>h) (by rfl) ?_ (by assumption) ?_
       rotate_left
       ·intro w hSw;(try dsimp only at hSw);go_simp;(all_goals with_reducible rfl)
       simp only [Act.put,sA,sB,sC]
       refine wpAnyH_ready (rs:=[8]) (by kernel_rfl) (by simp) ?_
       refine AllReadyH.cons (o:=⟨some 61,_,_,_,_,_⟩) rfl (fun K hK=>?_) AllReadyH.nil
       go_simp
       refine(CC.out _ (HST.out.keep s6.2.2.2.2.2.2.2.2.2.2.2.2.2.2.2.2.2.2.2.2.2.2.2)).mono ?_;rintro e7 w7 ⟨rfl,k7⟩;have s7:=keepu23 k7 s6
       go_wp2_with fail
       refine hK.out _ _ ?_ (fun hHeld=>?_)
       ·(try dsimp only);(first | assumption | exact s8 | exact s7 | exact s6 | exact s5)
       clear hK K
       try simp only [Act.put,sA,sB,sC]
       refine wpAnyH_ready (rs:=[9]) (by kernel_rfl) (by simp) ?_
       refine AllReadyH.cons (o:=⟨some 62,_,_,_,_,_⟩) rfl (fun K hK=>?_) AllReadyH.nil
       go_simp
       refine(CSK.out _).mono ?_;rintro e8 w8 ⟨rfl,k8⟩;have s8:=keepu23 k8 s7
       go_wp2_with fail
       refine hK.out _ _ ?_ (fun hHeld=>?_)
       ·(try dsimp only);(first | assumption | exact s8 | exact s7 | exact s6 | exact s5)
       clear hK K
       try simp only [Act.put,sA,sB,sC]
       refine tk 10 ⟨some 63,_,_,_,_,_⟩ ?_ rfl (by kernel_rfl) (fun _ _ _ h=>h) (by rfl) ?_ (by assumption) ?_
       rotate_left
       ·intro w hSw;(try dsimp only at hSw);go_simp;(all_goals with_reducible rfl)
       simp only [Act.put,sA,sB,sC]
       refine tk 11 ⟨some 64,_,_,_,_,_⟩ ?_ rfl (by kernel_rfl) (fun _ _ _ h=>h) (by rfl) ?_ (by assumption) ?_
       rotate_left
       ·intro w hSw;(try dsimp only at hSw);go_simp;(all_goals with_reducible rfl)
       simp only [Act.put,sA,sB,sC]
       refine wpAnyH_done (by kernel_rfl) ?_ _
       go_wp2_with fail
       go_ret
       exact⟨ret_bool (by rw [HR2.out,Bool.and_false]),s8.2.2.2.2.2.2.2.2.2.2.2.2.2.2.2.2.2.2.2.2.2.2.2⟩
      ·rw [hg] at CSK HG
       have HE2:Hid ((us.drop (k+1)).all g2=R2):=Lib.hid (by rw [← hE.out,HX.out,List.all_cons,← HG.out,Bool.true_and])
       clear hg
       go_upto_region 13 with (fail)
       have kbw:Kp wr (wr.alloc (.cells #[.int .i64 sx,.int .i64 kx,.int .i64 ax,.int .i64 tx] 152)):=(Kp.refl wr).alloc _
       have s4:cb12 (wr.alloc (.cells #[.int .i64 sx,.int .i64 kx,.int .i64 ax,.int .i64 tx] 152)) (w.heap.size) (.slice At nt ct) (.slice Ak nk ck) (.int .i64 a) (.int .i64 b) (.int .i64 c) (.int .i64 d) (.int .i64 e) (.int .i64 W) (.int .i64 H) (x) (r) (y) (cb3 (wr.alloc (.cells #[.int .i64 sx,.int .i64 kx,.int .i64 ax,.int .i64 tx] 152)) (w.heap.size+1) (.int .i64 T) (.int .i64 Z) (.slice (some ⟨g,off,none⟩) q cp) (cb2 (wr.alloc (.cells #[.int .i64 sx,.int .i64 kx,.int .i64 ax,.int .i64 tx] 152)) 8 (.int .i64 0) (.int .i64 2) (cb2 (wr.alloc (.cells #[.int .i64 sx,.int .i64 kx,.int .i64 ax,.int .i64 tx] 152)) 6 (.int .i64 0) (.int .i64 12) (cb4 (wr.alloc (.cells #[.int .i64 sx,.int .i64 kx,.int .i64 ax,.int .i64 tx] 152)) (wr.heap.size) (.int .i64 sx) (.int .i64 kx) (.int .i64 ax) (.int .i64 tx) (Kp w (wr.alloc (.cells #[.int .i64 sx,.int .i64 kx,.int .i64 ax,.int .i64 tx] 152))))))):=⟨kbw.cell sr.1,kbw.cell sr.2.1,kbw.cell sr.2.2.1,kbw.cell sr.2.2.2.1,kbw.cell sr.2.2.2.2.1,kbw.cell sr.2.2.2.2.2.1,kbw.cell sr.2.2.2.2.2.2.1,kbw.cell sr.2.2.2.2.2.2.2.1,kbw.cell sr.2.2.2.2.2.2.2.2.1,kbw.cell sr.2.2.2.2.2.2.2.2.2.1,kbw.cell sr.2.2.2.2.2.2.2.2.2.2.1,kbw.cell sr.2.2.2.2.2.2.2.2.2.2.2.1,kbw.cell sr.2.2.2.2.2.2.2.2.2.2.2.2.1,kbw.cell sr.2.2.2.2.2.2.2.2.2.2.2.2.2.1,kbw.cell sr.2.2.2.2.2.2.2.2.2.2.2.2.2.2.1,kbw.cell sr.2.2.2.2.2.2.2.2.2.2.2.2.2.2.2.1,kbw.cell sr.2.2.2.2.2.2.2.2.2.2.2.2.2.2.2.2.1,kbw.cell sr.2.2.2.2.2.2.2.2.2.2.2.2.2.2.2.2.2.1,kbw.cell sr.2.2.2.2.2.2.2.2.2.2.2.2.2.2.2.2.2.2.1,by simp [go_sem],by simp [go_sem],by simp [go_sem],by simp [go_sem],sr.2.2.2.2.2.2.2.2.2.2.2.2.2.2.2.2.2.2.2.trans kbw⟩
       generalize wr.alloc (.cells #[.int .i64 sx,.int .i64 kx,.int .i64 ax,.int .i64 tx] 152)=W1 at *
       have s5:=drewu23 s4
       refine wp_region_held_drew (S:=(fun w'=>cb12 w' (w.heap.size) (.slice At nt ct) (.slice Ak nk ck) (.int .i64 a) (.int .i64 b) (.int .i64 c) (.int .i64 d) (.int .i64 e) (.int .i64 W) (.int .i64 H) (x) (r) (y) (cb3 w' (w.heap.size+1) (.int .i64 T) (.int .i64 Z) (.slice (some ⟨g,off,none⟩) q cp) (cb2 w' 8 (.int .i64 0) (.int .i64 2) (cb2 w' 6 (.int .i64 0) (.int .i64 12) (cb4 w' (wr.heap.size) (.int .i64 sx) (.int .i64 kx) (.int .i64 ax) (.int .i64 tx) (Kp w w'))))))) (by kernel_rfl) ?_ (fun hHeld=>?_)
       ·exact s5
       refine tk 0 ⟨some 53,_,_,_,_,_⟩ ?_ rfl (by kernel_rfl) (fun _ _ _ h=>h) (by rfl) ?_ (by assumption) ?_
       rotate_left
       ·intro w hSw;(try dsimp only at hSw);go_simp;(all_goals with_reducible rfl)
       simp only [Act.put,sA,sB,sC]
       refine wpAnyH_ready (rs:=[1]) (by kernel_rfl) (by simp) ?_
       refine AllReadyH.cons (o:=⟨some 54,_,_,_,_,_⟩) rfl (fun K hK=>?_) AllReadyH.nil
       go_simp
       refine(onMap_yes _ _ _ _ _ ha).mono ?_;rintro e6 w6 ⟨rfl,k6⟩;have s6:=keepu23 k6 s5
       go_wp2_with fail
       refine hK.out _ _ ?_ (fun hHeld=>?_)
       ·(try dsimp only);(first | assumption | exact s8 | exact s7 | exact s6 | exact s5)
       clear hK K
       try simp only [Act.put,sA,sB,sC]
       refine tk 2 ⟨some 55,_,_,_,_,_⟩ ?_ rfl (by kernel_rfl) (fun _ _ _ h=>h) (by rfl) ?_ (by assumption) ?_
       rotate_left
       ·intro w hSw;(try dsimp only at hSw);go_simp;(all_goals with_reducible rfl)
       simp only [Act.put,sA,sB,sC]
       refine tk 3 ⟨some 56,_,_,_,_,_⟩ ?_ rfl (by kernel_rfl) (fun _ _ _ h=>h) (by rfl) ?_ (by assumption) ?_
       rotate_left
       ·intro w hSw;(try dsimp only at hSw);go_simp;(all_goals with_reducible rfl)
       simp only [Act.put,sA,sB,sC]
       refine tk 4 ⟨some 57,_,_,_,_,_⟩ ?_ rfl (by kernel_rfl) (fun _ _ _ h=>h) (by rfl) ?_ (by assumption) ?_
       rotate_left
       ·intro w hSw;(try dsimp only at hSw);go_simp;(all_goals with_reducible rfl)
       simp only [Act.put,sA,sB,sC]
       refine tk 5 ⟨some 58,_,_,_,_,_⟩ ?_ rfl (by kernel_rfl) (fun _ _ _ h=>h) (by rfl) ?_ (by assumption) ?_
       rotate_left
       ·intro w hSw;(try dsimp only at hSw);go_simp;(all_goals with_reducible rfl)
       simp only [Act.put,sA,sB,sC]
       refine tk 6 ⟨some 59,_,_,_,_,_⟩ ?_ rfl (by kernel_rfl) (fun _ _ _ h=>h) (by rfl) ?_ (by assumption) ?_
       rotate_left
       ·intro w hSw;(try dsimp only at hSw);go_simp;(all_goals with_reducible rfl)
       simp only [Act.put,sA,sB,sC]
       refine tk 7 ⟨some 60,_,_,_,_,_⟩ ?_ rfl (by kernel_rfl) (fun _ _ _ h=>h) (by rfl) ?_ (by assumption) ?_
       rotate_left
       ·intro w hSw;(try dsimp only at hSw);go_simp;(all_goals with_reducible rfl)
       simp only [Act.put,sA,sB,sC]
       refine wpAnyH_ready (rs:=[8]) (by kernel_rfl) (by simp) ?_
       refine AllReadyH.cons (o:=⟨some 61,_,_,_,_,_⟩) rfl (fun K hK=>?_) AllReadyH.nil
       go_simp
       refine(CC.out _ (HST.out.keep s6.2.2.2.2.2.2.2.2.2.2.2.2.2.2.2.2.2.2.2.2.2.2.2)).mono ?_;rintro e7 w7 ⟨rfl,k7⟩;have s7:=keepu23 k7 s6
       go_wp2_with fail
       refine hK.out _ _ ?_ (fun hHeld=>?_)
       ·(try dsimp only);(first | assumption | exact s8 | exact s7 | exact s6 | exact s5)
       clear hK K
       try simp only [Act.put,sA,sB,sC]
       refine wpAnyH_ready (rs:=[9]) (by kernel_rfl) (by simp) ?_
       refine AllReadyH.cons (o:=⟨some 62,_,_,_,_,_⟩) rfl (fun K hK=>?_) AllReadyH.nil
       go_simp
       refine(CSK.out _).mono ?_;rintro e8 w8 ⟨rfl,k8⟩;have s8:=keepu23 k8 s7
       go_wp2_with fail
       refine hK.out _ _ ?_ (fun hHeld=>?_)
       ·(try dsimp only);(first | assumption | exact s8 | exact s7 | exact s6 | exact s5)
       clear hK K
       try simp only [Act.put,sA,sB,sC]
       refine tk 10 ⟨some 63,_,_,_,_,_⟩ ?_ rfl (by kernel_rfl) (fun _ _ _ h=>h) (by rfl) ?_ (by assumption) ?_
       rotate_left
       ·intro w hSw;(try dsimp only at hSw);go_simp;(all_goals with_reducible rfl)
       simp only [Act.put,sA,sB,sC]
       refine tk 11 ⟨some 64,_,_,_,_,_⟩ ?_ rfl (by kernel_rfl) (fun _ _ _ h=>h) (by rfl) ?_ (by assumption) ?_
       rotate_left
       ·intro w hSw;(try dsimp only at hSw);go_simp;(all_goals with_reducible rfl)
       simp only [Act.put,sA,sB,sC]
       refine wpAnyH_done (by kernel_rfl) ?_ _
       go_wp2_with fail
       have sx9:cb12 w8 (w.heap.size) (.slice At nt ct) (.slice Ak nk ck) (.int .i64 a) (.int .i64 b) (.int .i64 c) (.int .i64 d) (.int .i64 e) (.int .i64 W) (.int .i64 H) (x) (r) (y) (cb3 w8 (w.heap.size+1) (.int .i64 T) (.int .i64 Z) (.slice (some ⟨g,off,none⟩) q cp) (cb2 w8 8 (.int .i64 0) (.int .i64 2) (cb2 w8 6 (.int .i64 0) (.int .i64 12) (Kp w w8)))):=⟨s8.1,s8.2.1,s8.2.2.1,s8.2.2.2.1,s8.2.2.2.2.1,s8.2.2.2.2.2.1,s8.2.2.2.2.2.2.1,s8.2.2.2.2.2.2.2.1,s8.2.2.2.2.2.2.2.2.1,s8.2.2.2.2.2.2.2.2.2.1,s8.2.2.2.2.2.2.2.2.2.2.1,s8.2.2.2.2.2.2.2.2.2.2.2.1,s8.2.2.2.2.2.2.2.2.2.2.2.2.1,s8.2.2.2.2.2.2.2.2.2.2.2.2.2.1,s8.2.2.2.2.2.2.2.2.2.2.2.2.2.2.1,s8.2.2.2.2.2.2.2.2.2.2.2.2.2.2.2.1,s8.2.2.2.2.2.2.2.2.2.2.2.2.2.2.2.2.1,s8.2.2.2.2.2.2.2.2.2.2.2.2.2.2.2.2.2.1,s8.2.2.2.2.2.2.2.2.2.2.2.2.2.2.2.2.2.2.1,s8.2.2.2.2.2.2.2.2.2.2.2.2.2.2.2.2.2.2.2.2.2.2.2⟩
       go_roundw
       case rel=>exact⟨k+1,by omega,by go_num,HE2,sx9⟩
       case measure=>simp [intOf];omega
    ·obtain rfl:k=q:=by omega
     have HR2:Hid (R2=true):=Lib.hid (by
      rw [← hE.out,List.drop_of_length_le (by rw [HN.out];omega)]
      rfl)
     go_wp2_with fail
     go_ret
     exact⟨ret_bool (by rw [HR1.out,HR2.out,Bool.true_and]),sr.2.2.2.2.2.2.2.2.2.2.2.2.2.2.2.2.2.2.2⟩
end Go.Proofs.YtacgknllagdkoaaGreatDoor
