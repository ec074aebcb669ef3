/-
 Texts of this seat in one module: UnG.
-/
import Derived.Test.YtacgknllagdkoaaGreatDoorQr
/-
 The reference's test of a state. Nothing that was there is changed.
-/
namespace Go.Proofs.YtacgknllagdkoaaGreatDoor
open Go.RowKit
set_option maxRecDepth 100000 in
set_option maxHeartbeats 4000000 in
theorem sGood_no0 (At Ak:Option Addr) (nt nk ct ck:Nat) (l:List Ter) (m:List Knd) (a b c d e W H:Int) (x r y:Value) (lt lr ld:List Int) (T Z:Int) (A:Option Addr) (N cp:Nat) (w:World) (hB:BrdAt w At Ak nt nk l m x r y lt lr ld) (hok:brdOk ⟨l,m,a,b,c,d,e⟩ W H lt lr ld=false)  :
  Calls Tryz.prog 62 #[bv (.slice At nt ct) (.slice Ak nk ck) a b c d e W H x r y,sv T Z (.slice A N cp)] w fun e' w'=>e'=.returned (.bool false)∧Kp w w':=by
 have KA:Kp w ((w.alloc (.cells #[.slice At nt ct,.slice Ak nk ck,.int .i64 a,.int .i64 b,.int .i64 c,.int .i64 d,.int .i64 e,.int .i64 W,.int .i64 H,x,r,y] 47)).alloc (.cells #[.int .i64 T,.int .i64 Z,.slice A N cp] 51)):=((Kp.refl w).alloc _).alloc _
 have s0:cb12 ((w.alloc (.cells #[.slice At nt ct,.slice Ak nk ck,.int .i64 a,.int .i64 b,.int .i64 c,.int .i64 d,.int .i64 e,.int .i64 W,.int .i64 H,x,r,y] 47)).alloc (.cells #[.int .i64 T,.int .i64 Z,.slice A N cp] 51)) (w.heap.size) (.slice At nt ct) (.slice Ak nk ck) (.int .i64 a) (.int .i64 b) (.int .i64 c) (.int .i64 d) (.int .i64 e) (.int .i64 W) (.int .i64 H) (x) (r) (y) (cb3 ((w.alloc (.cells #[.slice At nt ct,.slice Ak nk ck,.int .i64 a,.int .i64 b,.int .i64 c,.int .i64 d,.int .i64 e,.int .i64 W,.int .i64 H,x,r,y] 47)).alloc (.cells #[.int .i64 T,.int .i64 Z,.slice A N cp] 51)) (w.heap.size+1) (.int .i64 T) (.int .i64 Z) (.slice A N cp) (Kp w ((w.alloc (.cells #[.slice At nt ct,.slice Ak nk ck,.int .i64 a,.int .i64 b,.int .i64 c,.int .i64 d,.int .i64 e,.int .i64 W,.int .i64 H,x,r,y] 47)).alloc (.cells #[.int .i64 T,.int .i64 Z,.slice A N cp] 51)))):=⟨by simp [go_sem],by simp [go_sem],by simp [go_sem],by simp [go_sem],by simp [go_sem],by simp [go_sem],by simp [go_sem],by simp [go_sem],by simp [go_sem],by simp [go_sem],by simp [go_sem],by simp [go_sem],by simp [go_sem],by simp [go_sem],by simp [go_sem],KA⟩
 have C1:=Lib.hid (bGood_any At Ak nt nk ct ck l m a b c d e W H x r y lt lr ld _ (hB.keep KA))
 rw [hok] at C1
 clear hB hok KA
 go_enter Tryz.func62,Tryz.ntmps62
 go_wp2_with fail
 refine C1.out.mono ?_
 rintro e1 w1 ⟨rfl,k1⟩
 have s1:=keept15 k1 s0
 clear s0 k1
 go_wp2_with fail
 go_ret
 exact⟨rfl,s1.2.2.2.2.2.2.2.2.2.2.2.2.2.2.2⟩
set_option maxRecDepth 100000 in
set_option maxHeartbeats 4000000 in
theorem sGood_no1 (At Ak:Option Addr) (nt nk ct ck:Nat) (l:List Ter) (m:List Knd) (a b c d e W H:Int) (x r y:Value) (lt lr ld:List Int) (T Z:Int) (A:Option Addr) (N cp:Nat) (w:World) (hB:BrdAt w At Ak nt nk l m x r y lt lr ld) (hok:brdOk ⟨l,m,a,b,c,d,e⟩ W H lt lr ld=true) (h1:spB 0 e T=false) :
  Calls Tryz.prog 62 #[bv (.slice At nt ct) (.slice Ak nk ck) a b c d e W H x r y,sv T Z (.slice A N cp)] w fun e' w'=>e'=.returned (.bool false)∧Kp w w':=by
 have KA:Kp w ((w.alloc (.cells #[.slice At nt ct,.slice Ak nk ck,.int .i64 a,.int .i64 b,.int .i64 c,.int .i64 d,.int .i64 e,.int .i64 W,.int .i64 H,x,r,y] 47)).alloc (.cells #[.int .i64 T,.int .i64 Z,.slice A N cp] 51)):=((Kp.refl w).alloc _).alloc _
 have s0:cb12 ((w.alloc (.cells #[.slice At nt ct,.slice Ak nk ck,.int .i64 a,.int .i64 b,.int .i64 c,.int .i64 d,.int .i64 e,.int .i64 W,.int .i64 H,x,r,y] 47)).alloc (.cells #[.int .i64 T,.int .i64 Z,.slice A N cp] 51)) (w.heap.size) (.slice At nt ct) (.slice Ak nk ck) (.int .i64 a) (.int .i64 b) (.int .i64 c) (.int .i64 d) (.int .i64 e) (.int .i64 W) (.int .i64 H) (x) (r) (y) (cb3 ((w.alloc (.cells #[.slice At nt ct,.slice Ak nk ck,.int .i64 a,.int .i64 b,.int .i64 c,.int .i64 d,.int .i64 e,.int .i64 W,.int .i64 H,x,r,y] 47)).alloc (.cells #[.int .i64 T,.int .i64 Z,.slice A N cp] 51)) (w.heap.size+1) (.int .i64 T) (.int .i64 Z) (.slice A N cp) (Kp w ((w.alloc (.cells #[.slice At nt ct,.slice Ak nk ck,.int .i64 a,.int .i64 b,.int .i64 c,.int .i64 d,.int .i64 e,.int .i64 W,.int .i64 H,x,r,y] 47)).alloc (.cells #[.int .i64 T,.int .i64 Z,.slice A N cp] 51)))):=⟨by simp [go_sem],by simp [go_sem],by simp [go_sem],by simp [go_sem],by simp [go_sem],by simp [go_sem],by simp [go_sem],by simp [go_sem],by simp [go_sem],by simp [go_sem],by simp [go_sem],by simp [go_sem],by simp [go_sem],by simp [go_sem],by simp [go_sem],KA⟩
 have C1:=Lib.hid (bGood_any At Ak nt nk ct ck l m a b c d e W H x r y lt lr ld _ (hB.keep KA))
 rw [hok] at C1
 have CL1:Hid (∀ w,Calls Tryz.prog 63 #[.int .i64 T,.int .i64 0,.int .i64 e] w fun e w'=>e=.returned (.bool false)∧w=w'):=Lib.hid fun w=>by
  have:=l1In_sp T 0 e w
  rw [h1] at this
  exact this
 clear hB hok KA h1
 go_enter Tryz.func62,Tryz.ntmps62
 go_wp2_with fail
 refine C1.out.mono ?_
 rintro e1 w1 ⟨rfl,k1⟩
 have s1:=keept15 k1 s0
 clear s0 k1
 go_wp2_with fail
 refine(CL1.out _).mono ?_
 rintro e2 w2 ⟨rfl,rfl⟩
 go_wp2_with fail
 go_ret
 exact⟨rfl,s1.2.2.2.2.2.2.2.2.2.2.2.2.2.2.2⟩
set_option maxRecDepth 100000 in
set_option maxHeartbeats 4000000 in
theorem sGood_no2 (At Ak:Option Addr) (nt nk ct ck:Nat) (l:List Ter) (m:List Knd) (a b c d e W H:Int) (x r y:Value) (lt lr ld:List Int) (T Z:Int) (A:Option Addr) (N cp:Nat) (w:World) (hB:BrdAt w At Ak nt nk l m x r y lt lr ld) (hok:brdOk ⟨l,m,a,b,c,d,e⟩ W H lt lr ld=true) (h1:spB 0 e T=true) (h2:spB 0 2 Z=false) :
  Calls Tryz.prog 62 #[bv (.slice At nt ct) (.slice Ak nk ck) a b c d e W H x r y,sv T Z (.slice A N cp)] w fun e' w'=>e'=.returned (.bool false)∧Kp w w':=by
 have KA:Kp w ((w.alloc (.cells #[.slice At nt ct,.slice Ak nk ck,.int .i64 a,.int .i64 b,.int .i64 c,.int .i64 d,.int .i64 e,.int .i64 W,.int .i64 H,x,r,y] 47)).alloc (.cells #[.int .i64 T,.int .i64 Z,.slice A N cp] 51)):=((Kp.refl w).alloc _).alloc _
 have s0:cb12 ((w.alloc (.cells #[.slice At nt ct,.slice Ak nk ck,.int .i64 a,.int .i64 b,.int .i64 c,.int .i64 d,.int .i64 e,.int .i64 W,.int .i64 H,x,r,y] 47)).alloc (.cells #[.int .i64 T,.int .i64 Z,.slice A N cp] 51)) (w.heap.size) (.slice At nt ct) (.slice Ak nk ck) (.int .i64 a) (.int .i64 b) (.int .i64 c) (.int .i64 d) (.int .i64 e) (.int .i64 W) (.int .i64 H) (x) (r) (y) (cb3 ((w.alloc (.cells #[.slice At nt ct,.slice Ak nk ck,.int .i64 a,.int .i64 b,.int .i64 c,.int .i64 d,.int .i64 e,.int .i64 W,.int .i64 H,x,r,y] 47)).alloc (.cells #[.int .i64 T,.int .i64 Z,.slice A N cp] 51)) (w.heap.size+1) (.int .i64 T) (.int .i64 Z) (.slice A N cp) (Kp w ((w.alloc (.cells #[.slice At nt ct,.slice Ak nk ck,.int .i64 a,.int .i64 b,.int .i64 c,.int .i64 d,.int .i64 e,.int .i64 W,.int .i64 H,x,r,y] 47)).alloc (.cells #[.int .i64 T,.int .i64 Z,.slice A N cp] 51)))):=⟨by simp [go_sem],by simp [go_sem],by simp [go_sem],by simp [go_sem],by simp [go_sem],by simp [go_sem],by simp [go_sem],by simp [go_sem],by simp [go_sem],by simp [go_sem],by simp [go_sem],by simp [go_sem],by simp [go_sem],by simp [go_sem],by simp [go_sem],KA⟩
 have C1:=Lib.hid (bGood_any At Ak nt nk ct ck l m a b c d e W H x r y lt lr ld _ (hB.keep KA))
 rw [hok] at C1
 have CL1:Hid (∀ w,Calls Tryz.prog 63 #[.int .i64 T,.int .i64 0,.int .i64 e] w fun e w'=>e=.returned (.bool true)∧w=w'):=Lib.hid fun w=>by
  have:=l1In_sp T 0 e w
  rw [h1] at this
  exact this
 have CL2:Hid (∀ w,Calls Tryz.prog 63 #[.int .i64 Z,.int .i64 0,.int .i64 2] w fun e w'=>e=.returned (.bool false)∧w=w'):=Lib.hid fun w=>by
  have:=l1In_sp Z 0 2 w
  rw [h2] at this
  exact this
 clear hB hok KA h1 h2
 go_enter Tryz.func62,Tryz.ntmps62
 go_wp2_with fail
 refine C1.out.mono ?_
 rintro e1 w1 ⟨rfl,k1⟩
 have s1:=keept15 k1 s0
 clear s0 k1
 go_wp2_with fail
 refine(CL1.out _).mono ?_
 rintro e2 w2 ⟨rfl,rfl⟩
 go_wp2_with fail
 refine(CL2.out _).mono ?_
 rintro e3 w3 ⟨rfl,rfl⟩
 go_wp2_with fail
 go_ret
 exact⟨rfl,s1.2.2.2.2.2.2.2.2.2.2.2.2.2.2.2⟩
set_option maxRecDepth 100000 in
set_option maxHeartbeats 4000000 in
theorem sGood_no3 (At Ak:Option Addr) (nt nk ct ck:Nat) (l:List Ter) (m:List Knd) (a b c d e W H:Int) (x r y:Value) (lt lr ld:List Int) (T Z:Int) (A:Option Addr) (N cp:Nat) (w:World) (hB:BrdAt w At Ak nt nk l m x r y lt lr ld) (hok:brdOk ⟨l,m,a,b,c,d,e⟩ W H lt lr ld=true) (h1:spB 0 e T=true) (h2:spB 0 2 Z=true) (h3:12<N) :
  Calls Tryz.prog 62 #[bv (.slice At nt ct) (.slice Ak nk ck) a b c d e W H x r y,sv T Z (.slice A N cp)] w fun e' w'=>e'=.returned (.bool false)∧Kp w w':=by
 have KA:Kp w ((w.alloc (.cells #[.slice At nt ct,.slice Ak nk ck,.int .i64 a,.int .i64 b,.int .i64 c,.int .i64 d,.int .i64 e,.int .i64 W,.int .i64 H,x,r,y] 47)).alloc (.cells #[.int .i64 T,.int .i64 Z,.slice A N cp] 51)):=((Kp.refl w).alloc _).alloc _
 have s0:cb12 ((w.alloc (.cells #[.slice At nt ct,.slice Ak nk ck,.int .i64 a,.int .i64 b,.int .i64 c,.int .i64 d,.int .i64 e,.int .i64 W,.int .i64 H,x,r,y] 47)).alloc (.cells #[.int .i64 T,.int .i64 Z,.slice A N cp] 51)) (w.heap.size) (.slice At nt ct) (.slice Ak nk ck) (.int .i64 a) (.int .i64 b) (.int .i64 c) (.int .i64 d) (.int .i64 e) (.int .i64 W) (.int .i64 H) (x) (r) (y) (cb3 ((w.alloc (.cells #[.slice At nt ct,.slice Ak nk ck,.int .i64 a,.int .i64 b,.int .i64 c,.int .i64 d,.int .i64 e,.int .i64 W,.int .i64 H,x,r,y] 47)).alloc (.cells #[.int .i64 T,.int .i64 Z,.slice A N cp] 51)) (w.heap.size+1) (.int .i64 T) (.int .i64 Z) (.slice A N cp) (Kp w ((w.alloc (.cells #[.slice At nt ct,.slice Ak nk ck,.int .i64 a,.int .i64 b,.int .i64 c,.int .i64 d,.int .i64 e,.int .i64 W,.int .i64 H,x,r,y] 47)).alloc (.cells #[.int .i64 T,.int .i64 Z,.slice A N cp] 51)))):=⟨by simp [go_sem],by simp [go_sem],by simp [go_sem],by simp [go_sem],by simp [go_sem],by simp [go_sem],by simp [go_sem],by simp [go_sem],by simp [go_sem],by simp [go_sem],by simp [go_sem],by simp [go_sem],by simp [go_sem],by simp [go_sem],by simp [go_sem],KA⟩
 have C1:=Lib.hid (bGood_any At Ak nt nk ct ck l m a b c d e W H x r y lt lr ld _ (hB.keep KA))
 rw [hok] at C1
 have CL1:Hid (∀ w,Calls Tryz.prog 63 #[.int .i64 T,.int .i64 0,.int .i64 e] w fun e w'=>e=.returned (.bool true)∧w=w'):=Lib.hid fun w=>by
  have:=l1In_sp T 0 e w
  rw [h1] at this
  exact this
 have CL2:Hid (∀ w,Calls Tryz.prog 63 #[.int .i64 Z,.int .i64 0,.int .i64 2] w fun e w'=>e=.returned (.bool true)∧w=w'):=Lib.hid fun w=>by
  have:=l1In_sp Z 0 2 w
  rw [h2] at this
  exact this
 have h3':(12:Int)<N:=by omega
 clear hB hok KA h1 h2
 go_enter Tryz.func62,Tryz.ntmps62
 go_wp2_with fail
 refine C1.out.mono ?_
 rintro e1 w1 ⟨rfl,k1⟩
 have s1:=keept15 k1 s0
 clear s0 k1
 go_wp2_with fail
 refine(CL1.out _).mono ?_
 rintro e2 w2 ⟨rfl,rfl⟩
 go_wp2_with fail
 refine(CL2.out _).mono ?_
 rintro e3 w3 ⟨rfl,rfl⟩
 go_wp2_with fail
 go_ret
 exact⟨rfl,s1.2.2.2.2.2.2.2.2.2.2.2.2.2.2.2⟩
set_option maxRecDepth 100000 in
set_option maxHeartbeats 4000000 in
theorem sGood_go (At Ak:Option Addr) (nt nk ct ck:Nat) (l:List Ter) (m:List Knd) (a b c d e W H:Int) (x r y:Value) (lt lr ld:List Int) (T Z:Int) (A:Option Addr) (N cp:Nat) (us:List Uni) (w:World) (hB:BrdAt w At Ak nt nk l m x r y lt lr ld) (hok:brdOk ⟨l,m,a,b,c,d,e⟩ W H lt lr ld=true) (hS:StaAt w (.slice A N cp) us) (hN:us.length=N) (h1:spB 0 e T=true) (h2:spB 0 2 Z=true) (hn12:N≤12) :
  Calls Tryz.prog 62 #[bv (.slice At nt ct) (.slice Ak nk ck) a b c d e W H x r y,sv T Z (.slice A N cp)] w fun e' w'=>e'=.returned (.bool (us.all (uniOk l m W H lt) && us.all (stkOk us a)))∧Kp w w':=by
 have KA:Kp w ((w.alloc (.cells #[.slice At nt ct,.slice Ak nk ck,.int .i64 a,.int .i64 b,.int .i64 c,.int .i64 d,.int .i64 e,.int .i64 W,.int .i64 H,x,r,y] 47)).alloc (.cells #[.int .i64 T,.int .i64 Z,.slice A N cp] 51)):=((Kp.refl w).alloc _).alloc _
 have s0:cb12 ((w.alloc (.cells #[.slice At nt ct,.slice Ak nk ck,.int .i64 a,.int .i64 b,.int .i64 c,.int .i64 d,.int .i64 e,.int .i64 W,.int .i64 H,x,r,y] 47)).alloc (.cells #[.int .i64 T,.int .i64 Z,.slice A N cp] 51)) (w.heap.size) (.slice At nt ct) (.slice Ak nk ck) (.int .i64 a) (.int .i64 b) (.int .i64 c) (.int .i64 d) (.int .i64 e) (.int .i64 W) (.int .i64 H) (x) (r) (y) (cb3 ((w.alloc (.cells #[.slice At nt ct,.slice Ak nk ck,.int .i64 a,.int .i64 b,.int .i64 c,.int .i64 d,.int .i64 e,.int .i64 W,.int .i64 H,x,r,y] 47)).alloc (.cells #[.int .i64 T,.int .i64 Z,.slice A N cp] 51)) (w.heap.size+1) (.int .i64 T) (.int .i64 Z) (.slice A N cp) (Kp w ((w.alloc (.cells #[.slice At nt ct,.slice Ak nk ck,.int .i64 a,.int .i64 b,.int .i64 c,.int .i64 d,.int .i64 e,.int .i64 W,.int .i64 H,x,r,y] 47)).alloc (.cells #[.int .i64 T,.int .i64 Z,.slice A N cp] 51)))):=⟨by simp [go_sem],by simp [go_sem],by simp [go_sem],by simp [go_sem],by simp [go_sem],by simp [go_sem],by simp [go_sem],by simp [go_sem],by simp [go_sem],by simp [go_sem],by simp [go_sem],by simp [go_sem],by simp [go_sem],by simp [go_sem],by simp [go_sem],KA⟩
 have C1:=Lib.hid (bGood_any At Ak nt nk ct ck l m a b c d e W H x r y lt lr ld _ (hB.keep KA))
 rw [hok] at C1
 have CL1:Hid (∀ w,Calls Tryz.prog 63 #[.int .i64 T,.int .i64 0,.int .i64 e] w fun e w'=>e=.returned (.bool true)∧w=w'):=Lib.hid fun w=>by
  have:=l1In_sp T 0 e w
  rw [h1] at this
  exact this
 have CL2:Hid (∀ w,Calls Tryz.prog 63 #[.int .i64 Z,.int .i64 0,.int .i64 2] w fun e w'=>e=.returned (.bool true)∧w=w'):=Lib.hid fun w=>by
  have:=l1In_sp Z 0 2 w
  rw [h2] at this
  exact this
 have HN:=Lib.hid hN
 have HB:=Lib.hid hB
 have HST:=Lib.hid hS
 have HA:Hid (0<N→∃ g off,A=some ⟨g,off,none⟩∧∀ i x,us[i]?=some x→UniAt w g (off+i*4) x):=Lib.hid (by
  obtain⟨A',c',e',h'⟩:=hS.rd
  simp only [Value.slice.injEq] at e'
  obtain⟨rfl,_,rfl⟩:=e'
  rw [hN] at h'
  exact h')
 obtain⟨f,hf⟩:∃ f:Uni→Bool,f=uniOk l m W H lt:=⟨_,rfl⟩
 obtain⟨g2,hg2⟩:∃ f:Uni→Bool,f=stkOk us a:=⟨_,rfl⟩
 have CU:Hid (∀ (sx kx ax tx:Int) (w:World),BrdAt w At Ak nt nk l m x r y lt lr ld→Calls Tryz.prog 128 #[bv (.slice At nt ct) (.slice Ak nk ck) a b c d e W H x r y,ux sx kx ax tx] w fun e' w'=>e'=.returned (.bool (f ⟨sx,kx,ax,tx⟩))∧Kp w w'):=Lib.hid fun sx kx ax tx w h'=>by
  rw [hf]
  exact sUnit_any At Ak nt nk ct ck l m a b c d e W H x r y lt lr ld sx kx ax tx w h' hok
 have FS:Hid (us.all f=true→∀ x ∈ us,(x.s=0∨x.s=1)∧(x.a=-1∨0≤x.a)):=Lib.hid fun h x hx=>by
  rw [List.all_eq_true] at h
  have:=h x hx
  rw [hf] at this
  exact⟨(uniOk_side this).1,(uniOk_side this).2.2.2⟩
 have FG:Hid (∀ x:Uni,g2 x=(decide (x.a=-1) || (decide ((unL (inHexS x.a (1 - x.s)) us us.length).length=0) && decide (((unL (inHexS x.a x.s) us us.length).length:Int)≤a)))):=Lib.hid fun x=>by
  rw [hg2]
  rfl
 rw [← hf,← hg2]
 obtain⟨R1,hR1⟩:∃ R,R=us.all f:=⟨_,rfl⟩
 obtain⟨R2,hR2⟩:∃ R,R=us.all g2:=⟨_,rfl⟩
 rw [← hR1] at FS
 have ED1:Hid ((us.drop 0).all f=R1):=Lib.hid hR1.symm
 have ED2:Hid ((us.drop 0).all g2=R2):=Lib.hid hR2.symm
 rw [← hR1,← hR2]
 have hn12':¬ (12:Int)<N:=by omega
 clear hB hok hS hN h1 h2 hf hg2 hR1 hR2 KA
 go_enter Tryz.func62,Tryz.ntmps62
 go_wp2_with fail
 refine C1.out.mono ?_
 rintro e1 w1 ⟨rfl,k1⟩
 have s1:=keept15 k1 s0
 clear s0 k1
 go_wp2_with fail
 refine(CL1.out _).mono ?_
 rintro e2 w2 ⟨rfl,rfl⟩
 go_wp2_with fail
 refine(CL2.out _).mono ?_
 rintro e3 w3 ⟨rfl,rfl⟩
 go_wp2_with fail
 go_loopw [36] (fun iq wx=>∃ q:Nat,q≤N∧iq=.int .i64 q∧Hid ((us.drop q).all f=R1)∧cb12 wx (w.heap.size) (.slice At nt ct) (.slice Ak nk ck) (.int .i64 a) (.int .i64 b) (.int .i64 c) (.int .i64 d) (.int .i64 e) (.int .i64 W) (.int .i64 H) (x) (r) (y) (cb3 wx (w.heap.size+1) (.int .i64 T) (.int .i64 Z) (.slice A N cp) (Kp w wx))) (fun iq _=>N - (intOf iq).toNat)
 case atStart=>exact⟨0,by omega,rfl,ED1,s1⟩
 case round =>
  clear s1 ED1
  obtain⟨q,hq,rfl,hE,sr⟩:=hrel
  by_cases hlt:q<N
  ·have hlt':(q:Int)<N:=by omega
   obtain⟨g,off,rfl,hc⟩:=HA.out (by omega)
   obtain⟨sx,kx,ax,tx,hx⟩:=uni_getT HN.out hlt
   obtain⟨a0,a1,a2,a3⟩:=(hc q _ hx).keep sr.2.2.2.2.2.2.2.2.2.2.2.2.2.2.2
   have HX:=Lib.hid (drop_step hx)
   simp only at a0 a1 a2 a3
   clear hc hx
   have kbw:Kp wr (wr.alloc (.cells #[.int .i64 sx,.int .i64 kx,.int .i64 ax,.int .i64 tx] 152)):=(Kp.refl wr).alloc _
   have s4:=keept15 kbw sr
   have hz0:=cell_lt sr.1
   have hz1:=cell_lt sr.2.2.2.2.2.2.2.2.2.2.2.2.1
   have CX:=Lib.hid (CU.out sx kx ax tx _ (HB.out.keep s4.2.2.2.2.2.2.2.2.2.2.2.2.2.2.2))
   cases hfx:f ⟨sx,kx,ax,tx⟩
   ·rw [hfx] at CX
    have HR1:Hid (R1=false):=Lib.hid (by rw [← hE.out,HX.out,List.all_cons,hfx,Bool.false_and])
    clear s4 kbw hfx
    go_wp2_with fail
    refine CX.out.mono ?_
    rintro e5 w5 ⟨rfl,k5⟩
    go_wp2_with fail
    go_ret
    exact⟨ret_bool (by rw [HR1.out,Bool.false_and]),(sr.2.2.2.2.2.2.2.2.2.2.2.2.2.2.2.alloc _).trans k5⟩
   ·rw [hfx] at CX
    have HE2:Hid ((us.drop (q+1)).all f=R1):=Lib.hid (by rw [← hE.out,HX.out,List.all_cons,hfx,Bool.true_and])
    clear hfx
    go_wp2_with fail
    refine CX.out.mono ?_
    rintro e5 w5 ⟨rfl,k5⟩
    have s5:=keept15 k5 s4
    clear s4 k5 kbw
    go_wp2_with fail
    go_roundw
    case rel=>exact⟨q+1,by omega,by go_num,HE2,s5⟩
    case measure=>simp [intOf];omega
  ·obtain rfl:q=N:=by omega
   have HR1:Hid (R1=true):=Lib.hid (by
    rw [← hE.out,List.drop_of_length_le (by rw [HN.out];omega)]
    rfl)
   have HSD:=Lib.hid (FS.out HR1.out)
   clear hE
   go_wp2_with fail
   go_loopw [48] (fun iq wx=>∃ k:Nat,k≤q∧iq=.int .i64 k∧Hid ((us.drop k).all g2=R2)∧cb12 wx (w.heap.size) (.slice At nt ct) (.slice Ak nk ck) (.int .i64 a) (.int .i64 b) (.int .i64 c) (.int .i64 d) (.int .i64 e) (.int .i64 W) (.int .i64 H) (x) (r) (y) (cb3 wx (w.heap.size+1) (.int .i64 T) (.int .i64 Z) (.slice A q cp) (Kp w wx))) (fun iq _=>q - (intOf iq).toNat)
   case atStart=>exact⟨0,by omega,rfl,ED2,sr⟩
   case round =>
    clear sr ED2
    obtain⟨k,hkq,rfl,hE,sr⟩:=hrel
    by_cases hlt:k<q
    ·have hlt':(k:Int)<q:=by omega
     obtain⟨g,off,rfl,hc⟩:=HA.out (by omega)
     obtain⟨sx,kx,ax,tx,hx⟩:=uni_getT HN.out hlt
     obtain⟨a0,a1,a2,a3⟩:=(hc k _ hx).keep sr.2.2.2.2.2.2.2.2.2.2.2.2.2.2.2
     have HX:=Lib.hid (drop_step hx)
     obtain⟨hsd,had⟩:=HSD.out _ (List.mem_of_getElem? hx)
     have HG:=Lib.hid (FG.out ⟨sx,kx,ax,tx⟩)
     have hz0:=cell_lt sr.1
     have hz1:=cell_lt sr.2.2.2.2.2.2.2.2.2.2.2.2.1
     obtain⟨n0,e0⟩:∃ z,(unL (inHexS ax (1 - sx)) us us.length).length=z:=⟨_,rfl⟩
     obtain⟨n1,e1⟩:∃ z,(unL (inHexS ax sx) us us.length).length=z:=⟨_,rfl⟩
     simp only at a0 a1 a2 a3 HG hsd had
     rw [e0,e1] at HG
     have ews:IntKind.i64.wrap (1 - sx)=1 - sx:=IntWalk.i64_in _ (by omega)
     have CA0:Hid (∀ w,StaAt w (.slice (some ⟨g,off,none⟩) q cp) us→Calls Tryz.prog 129 #[sv T Z (.slice (some ⟨g,off,none⟩) q cp),.int .i64 ax,.int .i64 (1 - sx)] w fun e w'=>∃ A c,e=.returned (.slice A n0 c)∧Kp w w'):=Lib.hid fun w h=>(sAt_any T Z _ us ax (1 - sx) w h (by rw [HN.out];exact hn12)).mono fun e w' ⟨v,he,ho,hk⟩=>by
      obtain⟨A',c',rfl⟩:=ho.slice
      rw [e0] at he
      exact⟨_,_,he,hk⟩
     have CA1:Hid (∀ w,StaAt w (.slice (some ⟨g,off,none⟩) q cp) us→Calls Tryz.prog 129 #[sv T Z (.slice (some ⟨g,off,none⟩) q cp),.int .i64 ax,.int .i64 sx] w fun e w'=>∃ A c,e=.returned (.slice A n1 c)∧Kp w w'):=Lib.hid fun w h=>(sAt_any T Z _ us ax sx w h (by rw [HN.out];exact hn12)).mono fun e w' ⟨v,he,ho,hk⟩=>by
      obtain⟨A',c',rfl⟩:=ho.slice
      rw [e1] at he
      exact⟨_,_,he,hk⟩
     clear hc hx e0 e1 hsd
     by_cases ha:ax=-1
     ·subst ha
      have HE2:Hid ((us.drop (k+1)).all g2=R2):=Lib.hid (by rw [← hE.out,HX.out,List.all_cons,HG.out];simp)
      clear HG CA0 CA1 ews had
      go_upto_region 12 with (fail)
      have kbw:Kp wr (wr.alloc (.cells #[.int .i64 sx,.int .i64 kx,.int .i64 (-1),.int .i64 tx] 152)):=(Kp.refl wr).alloc _
      have s4:cb12 (wr.alloc (.cells #[.int .i64 sx,.int .i64 kx,.int .i64 (-1),.int .i64 tx] 152)) (w.heap.size) (.slice At nt ct) (.slice Ak nk ck) (.int .i64 a) (.int .i64 b) (.int .i64 c) (.int .i64 d) (.int .i64 e) (.int .i64 W) (.int .i64 H) (x) (r) (y) (cb3 (wr.alloc (.cells #[.int .i64 sx,.int .i64 kx,.int .i64 (-1),.int .i64 tx] 152)) (w.heap.size+1) (.int .i64 T) (.int .i64 Z) (.slice (some ⟨g,off,none⟩) q cp) (cb4 (wr.alloc (.cells #[.int .i64 sx,.int .i64 kx,.int .i64 (-1),.int .i64 tx] 152)) (wr.heap.size) (.int .i64 sx) (.int .i64 kx) (.int .i64 (-1)) (.int .i64 tx) (Kp w (wr.alloc (.cells #[.int .i64 sx,.int .i64 kx,.int .i64 (-1),.int .i64 tx] 152))))):=⟨kbw.cell sr.1,kbw.cell sr.2.1,kbw.cell sr.2.2.1,kbw.cell sr.2.2.2.1,kbw.cell sr.2.2.2.2.1,kbw.cell sr.2.2.2.2.2.1,kbw.cell sr.2.2.2.2.2.2.1,kbw.cell sr.2.2.2.2.2.2.2.1,kbw.cell sr.2.2.2.2.2.2.2.2.1,kbw.cell sr.2.2.2.2.2.2.2.2.2.1,kbw.cell sr.2.2.2.2.2.2.2.2.2.2.1,kbw.cell sr.2.2.2.2.2.2.2.2.2.2.2.1,kbw.cell sr.2.2.2.2.2.2.2.2.2.2.2.2.1,kbw.cell sr.2.2.2.2.2.2.2.2.2.2.2.2.2.1,kbw.cell sr.2.2.2.2.2.2.2.2.2.2.2.2.2.2.1,by simp [go_sem],by simp [go_sem],by simp [go_sem],by simp [go_sem],sr.2.2.2.2.2.2.2.2.2.2.2.2.2.2.2.trans kbw⟩
      generalize wr.alloc (.cells #[.int .i64 sx,.int .i64 kx,.int .i64 (-1),.int .i64 tx] 152)=W1 at *
      have s5:=drewt19 s4
      refine wp_region_held_drew (S:=(fun w'=>cb12 w' (w.heap.size) (.slice At nt ct) (.slice Ak nk ck) (.int .i64 a) (.int .i64 b) (.int .i64 c) (.int .i64 d) (.int .i64 e) (.int .i64 W) (.int .i64 H) (x) (r) (y) (cb3 w' (w.heap.size+1) (.int .i64 T) (.int .i64 Z) (.slice (some ⟨g,off,none⟩) q cp) (cb4 w' (wr.heap.size) (.int .i64 sx) (.int .i64 kx) (.int .i64 (-1)) (.int .i64 tx) (Kp w w'))))) (by kernel_rfl) ?_ (fun hHeld=>?_)
      ·exact s5
      refine tk 0 ⟨some 52,_,_,_,_,_⟩ ?_ rfl (by kernel_rfl) (fun _ _ _ h=>h) (by rfl) ?_ (by assumption) ?_
      rotate_left
      ·intro w hSw;(try dsimp only at hSw);go_simp;(all_goals with_reducible rfl)
      simp only [Act.put,sA,sB,sC]
      refine tk 1 ⟨some 53,_,_,_,_,_⟩ ?_ rfl (by kernel_rfl) (fun _ _ _ h=>h) (by rfl) ?_ (by assumption) ?_
      rotate_left
      ·intro w hSw;(try dsimp only at hSw);go_simp;(all_goals with_reducible rfl)
      simp only [Act.put,sA,sB,sC]
      refine tk 2 ⟨some 54,_,_,_,_,_⟩ ?_ rfl (by kernel_rfl) (fun _ _ _ h=>h) (by rfl) ?_ (by assumption) ?_
      rotate_left
      ·intro w hSw;(try dsimp only at hSw);go_simp;(all_goals with_reducible rfl)
      simp only [Act.put,sA,sB,sC]
      refine tk 3 ⟨some 55,_,_,_,_,_⟩ ?_ rfl (by kernel_rfl) (fun _ _ _ h=>h) (by rfl) ?_ (by assumption) ?_
      rotate_left
      ·intro w hSw;(try dsimp only at hSw);go_simp;(all_goals with_reducible rfl)
      simp only [Act.put,sA,sB,sC]
      refine tn 4 ⟨some 56,_,_,_,_,_⟩ rfl (by kernel_rfl) (fun _ _ _ h=>h) (by rfl) (by assumption) ?_
      simp only [Act.put,sA,sB,sC]
      refine tn 5 ⟨some 57,_,_,_,_,_⟩ rfl (by kernel_rfl) (fun _ _ _ h=>h) (by rfl) (by assumption) ?_
      simp only [Act.put,sA,sB,sC]
      refine tn 6 ⟨some 58,_,_,_,_,_⟩ rfl (by kernel_rfl) (fun _ _ _ h=>h) (by rfl) (by assumption) ?_
      simp only [Act.put,sA,sB,sC]
      refine tn 7 ⟨some 59,_,_,_,_,_⟩ rfl (by kernel_rfl) (fun _ _ _ h=>h) (by rfl) (by assumption) ?_
      simp only [Act.put,sA,sB,sC]
      refine tn 8 ⟨some 60,_,_,_,_,_⟩ rfl (by kernel_rfl) (fun _ _ _ h=>h) (by rfl) (by assumption) ?_
      simp only [Act.put,sA,sB,sC]
      refine tn 9 ⟨some 61,_,_,_,_,_⟩ rfl (by kernel_rfl) (fun _ _ _ h=>h) (by rfl) (by assumption) ?_
      simp only [Act.put,sA,sB,sC]
      refine wpAnyH_ready (rs:=[10]) (by kernel_rfl) (by simp) ?_
      refine AllReadyH.cons (o:=⟨some 62,_,_,_,_,_⟩) rfl (fun K hK=>?_) AllReadyH.nil
      go_simp
      refine hK.out _ _ ?_ (fun hHeld=>?_)
      ·(try dsimp only);(first | assumption | exact s7 | exact s6 | exact s5)
      clear hK K
      try simp only [Act.put,sA,sB,sC]
      refine tn 11 ⟨some 63,_,_,_,_,_⟩ rfl (by kernel_rfl) (fun _ _ _ h=>h) (by rfl) (by assumption) ?_
      simp only [Act.put,sA,sB,sC]
      refine tn 12 ⟨some 64,_,_,_,_,_⟩ rfl (by kernel_rfl) (fun _ _ _ h=>h) (by rfl) (by assumption) ?_
      simp only [Act.put,sA,sB,sC]
      refine tn 13 ⟨some 65,_,_,_,_,_⟩ rfl (by kernel_rfl) (fun _ _ _ h=>h) (by rfl) (by assumption) ?_
      simp only [Act.put,sA,sB,sC]
      refine tn 14 ⟨some 66,_,_,_,_,_⟩ rfl (by kernel_rfl) (fun _ _ _ h=>h) (by rfl) (by assumption) ?_
      simp only [Act.put,sA,sB,sC]
      refine tn 15 ⟨some 67,_,_,_,_,_⟩ rfl (by kernel_rfl) (fun _ _ _ h=>h) (by rfl) (by assumption) ?_
      simp only [Act.put,sA,sB,sC]
      refine tn 16 ⟨some 68,_,_,_,_,_⟩ rfl (by kernel_rfl) (fun _ _ _ h=>h) (by rfl) (by assumption) ?_
      simp only [Act.put,sA,sB,sC]
      refine tn 17 ⟨some 69,_,_,_,_,_⟩ rfl (by kernel_rfl) (fun _ _ _ h=>h) (by rfl) (by assumption) ?_
      simp only [Act.put,sA,sB,sC]
      refine tn 18 ⟨some 70,_,_,_,_,_⟩ rfl (by kernel_rfl) (fun _ _ _ h=>h) (by rfl) (by assumption) ?_
      simp only [Act.put,sA,sB,sC]
      refine tn 21 ⟨some 73,_,_,_,_,_⟩ rfl (by kernel_rfl) (fun _ _ _ h=>h) (by rfl) (by assumption) ?_
      simp only [Act.put,sA,sB,sC]
      refine tn 22 ⟨some 74,_,_,_,_,_⟩ rfl (by kernel_rfl) (fun _ _ _ h=>h) (by rfl) (by assumption) ?_
      simp only [Act.put,sA,sB,sC]
      refine tn 23 ⟨some 75,_,_,_,_,_⟩ rfl (by kernel_rfl) (fun _ _ _ h=>h) (by rfl) (by assumption) ?_
      simp only [Act.put,sA,sB,sC]
      refine wpAnyH_ready (rs:=[19]) (by kernel_rfl) (by simp) ?_
      refine AllReadyH.cons (o:=⟨some 71,_,_,_,_,_⟩) rfl (fun K hK=>?_) AllReadyH.nil
      go_simp
      refine hK.out _ _ ?_ (fun hHeld=>?_)
      ·(try dsimp only);(first | assumption | exact s7 | exact s6 | exact s5)
      clear hK K
      try simp only [Act.put,sA,sB,sC]
      refine tn 20 ⟨some 72,_,_,_,_,_⟩ rfl (by kernel_rfl) (fun _ _ _ h=>h) (by rfl) (by assumption) ?_
      simp only [Act.put,sA,sB,sC]
      refine tn 24 ⟨some 76,_,_,_,_,_⟩ rfl (by kernel_rfl) (fun _ _ _ h=>h) (by rfl) (by assumption) ?_
      simp only [Act.put,sA,sB,sC]
      refine tn 25 ⟨some 77,_,_,_,_,_⟩ rfl (by kernel_rfl) (fun _ _ _ h=>h) (by rfl) (by assumption) ?_
      simp only [Act.put,sA,sB,sC]
      refine tk 26 ⟨some 78,_,_,_,_,_⟩ ?_ rfl (by kernel_rfl) (fun _ _ _ h=>h) (by rfl) ?_ (by assumption) ?_
      rotate_left
      ·intro w hSw;(try dsimp only at hSw);go_simp;(all_goals with_reducible rfl)
      simp only [Act.put,sA,sB,sC]
      refine wpAnyH_done (by kernel_rfl) ?_ _
      have s9:=hHeld
      go_wp2_with fail
      go_roundw
      case rel=>exact⟨k+1,by omega,by go_num,HE2,s9.1,s9.2.1,s9.2.2.1,s9.2.2.2.1,s9.2.2.2.2.1,s9.2.2.2.2.2.1,s9.2.2.2.2.2.2.1,s9.2.2.2.2.2.2.2.1,s9.2.2.2.2.2.2.2.2.1,s9.2.2.2.2.2.2.2.2.2.1,s9.2.2.2.2.2.2.2.2.2.2.1,s9.2.2.2.2.2.2.2.2.2.2.2.1,s9.2.2.2.2.2.2.2.2.2.2.2.2.1,s9.2.2.2.2.2.2.2.2.2.2.2.2.2.1,s9.2.2.2.2.2.2.2.2.2.2.2.2.2.2.1,s9.2.2.2.2.2.2.2.2.2.2.2.2.2.2.2.2.2.2.2⟩
      case measure=>simp [intOf];omega
     ·have da:decide (ax=-1)=false:=by simpa using ha
      have hge:decide (0≤ax)=true:=decide_eq_true (by omega)
      rw [da,Bool.false_or] at HG
      clear da had
      by_cases hz:n0=0
      ·subst hz
       by_cases hst:(n1:Int)≤a
       ·have hgt:decide (a<(n1:Int))=false:=by simpa using hst
        have HE2:Hid ((us.drop (k+1)).all g2=R2):=Lib.hid (by rw [← hE.out,HX.out,List.all_cons,HG.out];simp [hst])
        clear HG hst
        go_upto_region 12 with (fail)
        have kbw:Kp wr (wr.alloc (.cells #[.int .i64 sx,.int .i64 kx,.int .i64 ax,.int .i64 tx] 152)):=(Kp.refl wr).alloc _
        have s4:cb12 (wr.alloc (.cells #[.int .i64 sx,.int .i64 kx,.int .i64 ax,.int .i64 tx] 152)) (w.heap.size) (.slice At nt ct) (.slice Ak nk ck) (.int .i64 a) (.int .i64 b) (.int .i64 c) (.int .i64 d) (.int .i64 e) (.int .i64 W) (.int .i64 H) (x) (r) (y) (cb3 (wr.alloc (.cells #[.int .i64 sx,.int .i64 kx,.int .i64 ax,.int .i64 tx] 152)) (w.heap.size+1) (.int .i64 T) (.int .i64 Z) (.slice (some ⟨g,off,none⟩) q cp) (cb4 (wr.alloc (.cells #[.int .i64 sx,.int .i64 kx,.int .i64 ax,.int .i64 tx] 152)) (wr.heap.size) (.int .i64 sx) (.int .i64 kx) (.int .i64 ax) (.int .i64 tx) (Kp w (wr.alloc (.cells #[.int .i64 sx,.int .i64 kx,.int .i64 ax,.int .i64 tx] 152))))):=⟨kbw.cell sr.1,kbw.cell sr.2.1,kbw.cell sr.2.2.1,kbw.cell sr.2.2.2.1,kbw.cell sr.2.2.2.2.1,kbw.cell sr.2.2.2.2.2.1,kbw.cell sr.2.2.2.2.2.2.1,kbw.cell sr.2.2.2.2.2.2.2.1,kbw.cell sr.2.2.2.2.2.2.2.2.1,kbw.cell sr.2.2.2.2.2.2.2.2.2.1,kbw.cell sr.2.2.2.2.2.2.2.2.2.2.1,kbw.cell sr.2.2.2.2.2.2.2.2.2.2.2.1,kbw.cell sr.2.2.2.2.2.2.2.2.2.2.2.2.1,kbw.cell sr.2.2.2.2.2.2.2.2.2.2.2.2.2.1,kbw.cell sr.2.2.2.2.2.2.2.2.2.2.2.2.2.2.1,by simp [go_sem],by simp [go_sem],by simp [go_sem],by simp [go_sem],sr.2.2.2.2.2.2.2.2.2.2.2.2.2.2.2.trans kbw⟩
        generalize wr.alloc (.cells #[.int .i64 sx,.int .i64 kx,.int .i64 ax,.int .i64 tx] 152)=W1 at *
        have s5:=drewt19 s4
        refine wp_region_held_drew (S:=(fun w'=>cb12 w' (w.heap.size) (.slice At nt ct) (.slice Ak nk ck) (.int .i64 a) (.int .i64 b) (.int .i64 c) (.int .i64 d) (.int .i64 e) (.int .i64 W) (.int .i64 H) (x) (r) (y) (cb3 w' (w.heap.size+1) (.int .i64 T) (.int .i64 Z) (.slice (some ⟨g,off,none⟩) q cp) (cb4 w' (wr.heap.size) (.int .i64 sx) (.int .i64 kx) (.int .i64 ax) (.int .i64 tx) (Kp w w'))))) (by kernel_rfl) ?_ (fun hHeld=>?_)
        ·exact s5
        refine tk 0 ⟨some 52,_,_,_,_,_⟩ ?_ rfl (by kernel_rfl) (fun _ _ _ h=>h) (by rfl) ?_ (by assumption) ?_
        rotate_left
        ·intro w hSw;(try dsimp only at hSw);go_simp;(all_goals with_reducible rfl)
        simp only [Act.put,sA,sB,sC]
        refine tk 1 ⟨some 53,_,_,_,_,_⟩ ?_ rfl (by kernel_rfl) (fun _ _ _ h=>h) (by rfl) ?_ (by assumption) ?_
        rotate_left
        ·intro w hSw;(try dsimp only at hSw);go_simp;(all_goals with_reducible rfl)
        simp only [Act.put,sA,sB,sC]
        refine tk 2 ⟨some 54,_,_,_,_,_⟩ ?_ rfl (by kernel_rfl) (fun _ _ _ h=>h) (by rfl) ?_ (by assumption) ?_
        rotate_left
        ·intro w hSw;(try dsimp only at hSw);go_simp;(all_goals with_reducible rfl)
        simp only [Act.put,sA,sB,sC]
        refine tk 3 ⟨some 55,_,_,_,_,_⟩ ?_ rfl (by kernel_rfl) (fun _ _ _ h=>h) (by rfl) ?_ (by assumption) ?_
        rotate_left
        ·intro w hSw;(try dsimp only at hSw);go_simp;(all_goals with_reducible rfl)
        simp only [Act.put,sA,sB,sC]
        refine tk 4 ⟨some 56,_,_,_,_,_⟩ ?_ rfl (by kernel_rfl) (fun _ _ _ h=>h) (by rfl) ?_ (by assumption) ?_
        rotate_left
        ·intro w hSw;(try dsimp only at hSw);go_simp;(all_goals with_reducible rfl)
        simp only [Act.put,sA,sB,sC]
        refine tk 5 ⟨some 57,_,_,_,_,_⟩ ?_ rfl (by kernel_rfl) (fun _ _ _ h=>h) (by rfl) ?_ (by assumption) ?_
        rotate_left
        ·intro w hSw;(try dsimp only at hSw);go_simp;(all_goals with_reducible rfl)
        simp only [Act.put,sA,sB,sC]
        refine tk 6 ⟨some 58,_,_,_,_,_⟩ ?_ rfl (by kernel_rfl) (fun _ _ _ h=>h) (by rfl) ?_ (by assumption) ?_
        rotate_left
        ·intro w hSw;(try dsimp only at hSw);go_simp;(all_goals with_reducible rfl)
        simp only [Act.put,sA,sB,sC]
        refine tk 7 ⟨some 59,_,_,_,_,_⟩ ?_ rfl (by kernel_rfl) (fun _ _ _ h=>h) (by rfl) ?_ (by assumption) ?_
        rotate_left
        ·intro w hSw;(try dsimp only at hSw);go_simp;(all_goals with_reducible rfl)
        simp only [Act.put,sA,sB,sC]
        refine tk 8 ⟨some 60,_,_,_,_,_⟩ ?_ rfl (by kernel_rfl) (fun _ _ _ h=>h) (by rfl) ?_ (by assumption) ?_
        rotate_left
        ·intro w hSw;(try dsimp only at hSw);go_simp;(all_goals with_reducible rfl)
        simp only [Act.put,sA,sB,sC]
        refine tk 9 ⟨some 61,_,_,_,_,_⟩ ?_ rfl (by kernel_rfl) (fun _ _ _ h=>h) (by rfl) ?_ (by assumption) ?_
        rotate_left
        ·intro w hSw;(try dsimp only at hSw);go_simp;(all_goals with_reducible rfl)
        simp only [Act.put,sA,sB,sC]
        refine wpAnyH_ready (rs:=[10]) (by kernel_rfl) (by simp) ?_
        refine AllReadyH.cons (o:=⟨some 62,_,_,_,_,_⟩) rfl (fun K hK=>?_) AllReadyH.nil
        go_simp
        refine(CA0.out _ (HST.out.keep hHeld.2.2.2.2.2.2.2.2.2.2.2.2.2.2.2.2.2.2.2)).mono ?_;rintro e6 w6 ⟨A6,c6,rfl,k6⟩;have s6:=keept19 k6 hHeld
        go_wp2_with fail
        refine hK.out _ _ ?_ (fun hHeld=>?_)
        ·(try dsimp only);(first | assumption | exact s7 | exact s6 | exact s5)
        clear hK K
        try simp only [Act.put,sA,sB,sC]
        refine tk 11 ⟨some 63,_,_,_,_,_⟩ ?_ rfl (by kernel_rfl) (fun _ _ _ h=>h) (by rfl) ?_ (by assumption) ?_
        rotate_left
        ·intro w hSw;(try dsimp only at hSw);go_simp;(all_goals with_reducible rfl)
        simp only [Act.put,sA,sB,sC]
        refine tk 12 ⟨some 64,_,_,_,_,_⟩ ?_ rfl (by kernel_rfl) (fun _ _ _ h=>h) (by rfl) ?_ (by assumption) ?_
        rotate_left
        ·intro w hSw;(try dsimp only at hSw);go_simp;(all_goals with_reducible rfl)
        simp only [Act.put,sA,sB,sC]
        refine tk 13 ⟨some 65,_,_,_,_,_⟩ ?_ rfl (by kernel_rfl) (fun _ _ _ h=>h) (by rfl) ?_ (by assumption) ?_
        rotate_left
        ·intro w hSw;(try dsimp only at hSw);go_simp;(all_goals with_reducible rfl)
        simp only [Act.put,sA,sB,sC]
        refine tk 14 ⟨some 66,_,_,_,_,_⟩ ?_ rfl (by kernel_rfl) (fun _ _ _ h=>h) (by rfl) ?_ (by assumption) ?_
        rotate_left
        ·intro w hSw;(try dsimp only at hSw);go_simp;(all_goals with_reducible rfl)
        simp only [Act.put,sA,sB,sC]
        refine tk 15 ⟨some 67,_,_,_,_,_⟩ ?_ rfl (by kernel_rfl) (fun _ _ _ h=>h) (by rfl) ?_ (by assumption) ?_
        rotate_left
        ·intro w hSw;(try dsimp only at hSw);go_simp;(all_goals with_reducible rfl)
        simp only [Act.put,sA,sB,sC]
        refine tk 16 ⟨some 68,_,_,_,_,_⟩ ?_ rfl (by kernel_rfl) (fun _ _ _ h=>h) (by rfl) ?_ (by assumption) ?_
        rotate_left
        ·intro w hSw;(try dsimp only at hSw);go_simp;(all_goals with_reducible rfl)
        simp only [Act.put,sA,sB,sC]
        refine tk 17 ⟨some 69,_,_,_,_,_⟩ ?_ rfl (by kernel_rfl) (fun _ _ _ h=>h) (by rfl) ?_ (by assumption) ?_
        rotate_left
        ·intro w hSw;(try dsimp only at hSw);go_simp;(all_goals with_reducible rfl)
        simp only [Act.put,sA,sB,sC]
        refine tk 18 ⟨some 70,_,_,_,_,_⟩ ?_ rfl (by kernel_rfl) (fun _ _ _ h=>h) (by rfl) ?_ (by assumption) ?_
        rotate_left
        ·intro w hSw;(try dsimp only at hSw);go_simp;(all_goals with_reducible rfl)
        simp only [Act.put,sA,sB,sC]
        refine tk 21 ⟨some 73,_,_,_,_,_⟩ ?_ rfl (by kernel_rfl) (fun _ _ _ h=>h) (by rfl) ?_ (by assumption) ?_
        rotate_left
        ·intro w hSw;(try dsimp only at hSw);go_simp;(all_goals with_reducible rfl)
        simp only [Act.put,sA,sB,sC]
        refine tk 22 ⟨some 74,_,_,_,_,_⟩ ?_ rfl (by kernel_rfl) (fun _ _ _ h=>h) (by rfl) ?_ (by assumption) ?_
        rotate_left
        ·intro w hSw;(try dsimp only at hSw);go_simp;(all_goals with_reducible rfl)
        simp only [Act.put,sA,sB,sC]
        refine tk 23 ⟨some 75,_,_,_,_,_⟩ ?_ rfl (by kernel_rfl) (fun _ _ _ h=>h) (by rfl) ?_ (by assumption) ?_
        rotate_left
        ·intro w hSw;(try dsimp only at hSw);go_simp;(all_goals with_reducible rfl)
        simp only [Act.put,sA,sB,sC]
        refine wpAnyH_ready (rs:=[19]) (by kernel_rfl) (by simp) ?_
        refine AllReadyH.cons (o:=⟨some 71,_,_,_,_,_⟩) rfl (fun K hK=>?_) AllReadyH.nil
        go_simp
        refine(CA1.out _ (HST.out.keep hHeld.2.2.2.2.2.2.2.2.2.2.2.2.2.2.2.2.2.2.2)).mono ?_;rintro e7 w7 ⟨A7,c7,rfl,k7⟩;have s7:=keept19 k7 hHeld
        go_wp2_with fail
        refine hK.out _ _ ?_ (fun hHeld=>?_)
        ·(try dsimp only);(first | assumption | exact s7 | exact s6 | exact s5)
        clear hK K
        try simp only [Act.put,sA,sB,sC]
        refine tk 20 ⟨some 72,_,_,_,_,_⟩ ?_ rfl (by kernel_rfl) (fun _ _ _ h=>h) (by rfl) ?_ (by assumption) ?_
        rotate_left
        ·intro w hSw;(try dsimp only at hSw);go_simp;(all_goals with_reducible rfl)
        simp only [Act.put,sA,sB,sC]
        refine tk 24 ⟨some 76,_,_,_,_,_⟩ ?_ rfl (by kernel_rfl) (fun _ _ _ h=>h) (by rfl) ?_ (by assumption) ?_
        rotate_left
        ·intro w hSw;(try dsimp only at hSw);go_simp;(all_goals with_reducible rfl)
        simp only [Act.put,sA,sB,sC]
        refine tk 25 ⟨some 77,_,_,_,_,_⟩ ?_ rfl (by kernel_rfl) (fun _ _ _ h=>h) (by rfl) ?_ (by assumption) ?_
        rotate_left
        ·intro w hSw;(try dsimp only at hSw);go_simp;(all_goals with_reducible rfl)
        simp only [Act.put,sA,sB,sC]
        refine tk 26 ⟨some 78,_,_,_,_,_⟩ ?_ rfl (by kernel_rfl) (fun _ _ _ h=>h) (by rfl) ?_ (by assumption) ?_
        rotate_left
        ·intro w hSw;(try dsimp only at hSw);go_simp;(all_goals with_reducible rfl)
        simp only [Act.put,sA,sB,sC]
        refine wpAnyH_done (by kernel_rfl) ?_ _
        have s9:=hHeld
        go_wp2_with fail
        go_roundw
        case rel=>exact⟨k+1,by omega,by go_num,HE2,s9.1,s9.2.1,s9.2.2.1,s9.2.2.2.1,s9.2.2.2.2.1,s9.2.2.2.2.2.1,s9.2.2.2.2.2.2.1,s9.2.2.2.2.2.2.2.1,s9.2.2.2.2.2.2.2.2.1,s9.2.2.2.2.2.2.2.2.2.1,s9.2.2.2.2.2.2.2.2.2.2.1,s9.2.2.2.2.2.2.2.2.2.2.2.1,s9.2.2.2.2.2.2.2.2.2.2.2.2.1,s9.2.2.2.2.2.2.2.2.2.2.2.2.2.1,s9.2.2.2.2.2.2.2.2.2.2.2.2.2.2.1,s9.2.2.2.2.2.2.2.2.2.2.2.2.2.2.2.2.2.2.2⟩
        case measure=>simp [intOf];omega
       ·have hgt:decide (a<(n1:Int))=true:=by simp;omega
        have HR2:Hid (R2=false):=Lib.hid (by rw [← hE.out,HX.out,List.all_cons,HG.out];simp [hst])
        clear HG hst
        go_upto_region 12 with (fail)
        have kbw:Kp wr (wr.alloc (.cells #[.int .i64 sx,.int .i64 kx,.int .i64 ax,.int .i64 tx] 152)):=(Kp.refl wr).alloc _
        have s4:cb12 (wr.alloc (.cells #[.int .i64 sx,.int .i64 kx,.int .i64 ax,.int .i64 tx] 152)) (w.heap.size) (.slice At nt ct) (.slice Ak nk ck) (.int .i64 a) (.int .i64 b) (.int .i64 c) (.int .i64 d) (.int .i64 e) (.int .i64 W) (.int .i64 H) (x) (r) (y) (cb3 (wr.alloc (.cells #[.int .i64 sx,.int .i64 kx,.int .i64 ax,.int .i64 tx] 152)) (w.heap.size+1) (.int .i64 T) (.int .i64 Z) (.slice (some ⟨g,off,none⟩) q cp) (cb4 (wr.alloc (.cells #[.int .i64 sx,.int .i64 kx,.int .i64 ax,.int .i64 tx] 152)) (wr.heap.size) (.int .i64 sx) (.int .i64 kx) (.int .i64 ax) (.int .i64 tx) (Kp w (wr.alloc (.cells #[.int .i64 sx,.int .i64 kx,.int .i64 ax,.int .i64 tx] 152))))):=⟨kbw.cell sr.1,kbw.cell sr.2.1,kbw.cell sr.2.2.1,kbw.cell sr.2.2.2.1,kbw.cell sr.2.2.2.2.1,kbw.cell sr.2.2.2.2.2.1,kbw.cell sr.2.2.2.2.2.2.1,kbw.cell sr.2.2.2.2.2.2.2.1,kbw.cell sr.2.2.2.2.2.2.2.2.1,kbw.cell sr.2.2.2.2.2.2.2.2.2.1,kbw.cell sr.2.2.2.2.2.2.2.2.2.2.1,kbw.cell sr.2.2.2.2.2.2.2.2.2.2.2.1,kbw.cell sr.2.2.2.2.2.2.2.2.2.2.2.2.1,kbw.cell sr.2.2.2.2.2.2.2.2.2.2.2.2.2.1,kbw.cell sr.2.2.2.2.2.2.2.2.2.2.2.2.2.2.1,by simp [go_sem],by simp [go_sem],by simp [go_sem],by simp [go_sem],sr.2.2.2.2.2.2.2.2.2.2.2.2.2.2.2.trans kbw⟩
        generalize wr.alloc (.cells #[.int .i64 sx,.int .i64 kx,.int .i64 ax,.int .i64 tx] 152)=W1 at *
        have s5:=drewt19 s4
        refine wp_region_held_drew (S:=(fun w'=>cb12 w' (w.heap.size) (.slice At nt ct) (.slice Ak nk ck) (.int .i64 a) (.int .i64 b) (.int .i64 c) (.int .i64 d) (.int .i64 e) (.int .i64 W) (.int .i64 H) (x) (r) (y) (cb3 w' (w.heap.size+1) (.int .i64 T) (.int .i64 Z) (.slice (some ⟨g,off,none⟩) q cp) (cb4 w' (wr.heap.size) (.int .i64 sx) (.int .i64 kx) (.int .i64 ax) (.int .i64 tx) (Kp w w'))))) (by kernel_rfl) ?_ (fun hHeld=>?_)
        ·exact s5
        refine tk 0 ⟨some 52,_,_,_,_,_⟩ ?_ rfl (by kernel_rfl) (fun _ _ _ h=>h) (by rfl) ?_ (by assumption) ?_
        rotate_left
        ·intro w hSw;(try dsimp only at hSw);go_simp;(all_goals with_reducible rfl)
        simp only [Act.put,sA,sB,sC]
        refine tk 1 ⟨some 53,_,_,_,_,_⟩ ?_ rfl (by kernel_rfl) (fun _ _ _ h=>h) (by rfl) ?_ (by assumption) ?_
        rotate_left
        ·intro w hSw;(try dsimp only at hSw);go_simp;(all_goals with_reducible rfl)
        simp only [Act.put,sA,sB,sC]
        refine tk 2 ⟨some 54,_,_,_,_,_⟩ ?_ rfl (by kernel_rfl) (fun _ _ _ h=>h) (by rfl) ?_ (by assumption) ?_
        rotate_left
        ·intro w hSw;(try dsimp only at hSw);go_simp;(all_goals with_reducible rfl)
        simp only [Act.put,sA,sB,sC]
        refine tk 3 ⟨some 55,_,_,_,_,_⟩ ?_ rfl (by kernel_rfl) (fun _ _ _ h=>h) (by rfl) ?_ (by assumption) ?_
        rotate_left
        ·intro w hSw;(try dsimp only at hSw);go_simp;(all_goals with_reducible rfl)
        simp only [Act.put,sA,sB,sC]
        refine tk 4 ⟨some 56,_,_,_,_,_⟩ ?_ rfl (by kernel_rfl) (fun _ _ _ h=>h) (by rfl) ?_ (by assumption) ?_
        rotate_left
        ·intro w hSw;(try dsimp only at hSw);go_simp;(all_goals with_reducible rfl)
        simp only [Act.put,sA,sB,sC]
        refine tk 5 ⟨some 57,_,_,_,_,_⟩ ?_ rfl (by kernel_rfl) (fun _ _ _ h=>h) (by rfl) ?_ (by assumption) ?_
        rotate_left
        ·intro w hSw;(try dsimp only at hSw);go_simp;(all_goals with_reducible rfl)
        simp only [Act.put,sA,sB,sC]
        refine tk 6 ⟨some 58,_,_,_,_,_⟩ ?_ rfl (by kernel_rfl) (fun _ _ _ h=>h) (by rfl) ?_ (by assumption) ?_
        rotate_left
        ·intro w hSw;(try dsimp only at hSw);go_simp;(all_goals with_reducible rfl)
        simp only [Act.put,sA,sB,sC]
        refine tk 7 ⟨some 59,_,_,_,_,_⟩ ?_ rfl (by kernel_rfl) (fun _ _ _ h=>h) (by rfl) ?_ (by assumption) ?_
        rotate_left
        ·intro w hSw;(try dsimp only at hSw);go_simp;(all_goals with_reducible rfl)
        simp only [Act.put,sA,sB,sC]
        refine tk 8 ⟨some 60,_,_,_,_,_⟩ ?_ rfl (by kernel_rfl) (fun _ _ _ h=>h) (by rfl) ?_ (by assumption) ?_
        rotate_left
        ·intro w hSw;(try dsimp only at hSw);go_simp;(all_goals with_reducible rfl)
        simp only [Act.put,sA,sB,sC]
        refine tk 9 ⟨some 61,_,_,_,_,_⟩ ?_ rfl (by kernel_rfl) (fun _ _ _ h=>h) (by rfl) ?_ (by assumption) ?_
        rotate_left
        ·intro w hSw;(try dsimp only at hSw);go_simp;(all_goals with_reducible rfl)
        simp only [Act.put,sA,sB,sC]
        refine wpAnyH_ready (rs:=[10]) (by kernel_rfl) (by simp) ?_
        refine AllReadyH.cons (o:=⟨some 62,_,_,_,_,_⟩) rfl (fun K hK=>?_) AllReadyH.nil
        go_simp
        refine(CA0.out _ (HST.out.keep hHeld.2.2.2.2.2.2.2.2.2.2.2.2.2.2.2.2.2.2.2)).mono ?_;rintro e6 w6 ⟨A6,c6,rfl,k6⟩;have s6:=keept19 k6 hHeld
        go_wp2_with fail
        refine hK.out _ _ ?_ (fun hHeld=>?_)
        ·(try dsimp only);(first | assumption | exact s7 | exact s6 | exact s5)
        clear hK K
        try simp only [Act.put,sA,sB,sC]
        refine tk 11 ⟨some 63,_,_,_,_,_⟩ ?_ rfl (by kernel_rfl) (fun _ _ _ h=>h) (by rfl) ?_ (by assumption) ?_
        rotate_left
        ·intro w hSw;(try dsimp only at hSw);go_simp;(all_goals with_reducible rfl)
        simp only [Act.put,sA,sB,sC]
        refine tk 12 ⟨some 64,_,_,_,_,_⟩ ?_ rfl (by kernel_rfl) (fun _ _ _ h=>h) (by rfl) ?_ (by assumption) ?_
        rotate_left
        ·intro w hSw;(try dsimp only at hSw);go_simp;(all_goals with_reducible rfl)
        simp only [Act.put,sA,sB,sC]
        refine tk 13 ⟨some 65,_,_,_,_,_⟩ ?_ rfl (by kernel_rfl) (fun _ _ _ h=>h) (by rfl) ?_ (by assumption) ?_
        rotate_left
        ·intro w hSw;(try dsimp only at hSw);go_simp;(all_goals with_reducible rfl)
        simp only [Act.put,sA,sB,sC]
        refine tk 14 ⟨some 66,_,_,_,_,_⟩ ?_ rfl (by kernel_rfl) (fun _ _ _ h=>h) (by rfl) ?_ (by assumption) ?_
        rotate_left
        ·intro w hSw;(try dsimp only at hSw);go_simp;(all_goals with_reducible rfl)
        simp only [Act.put,sA,sB,sC]
        refine tk 15 ⟨some 67,_,_,_,_,_⟩ ?_ rfl (by kernel_rfl) (fun _ _ _ h=>h) (by rfl) ?_ (by assumption) ?_
        rotate_left
        ·intro w hSw;(try dsimp only at hSw);go_simp;(all_goals with_reducible rfl)
        simp only [Act.put,sA,sB,sC]
        refine tk 16 ⟨some 68,_,_,_,_,_⟩ ?_ rfl (by kernel_rfl) (fun _ _ _ h=>h) (by rfl) ?_ (by assumption) ?_
        rotate_left
        ·intro w hSw;(try dsimp only at hSw);go_simp;(all_goals with_reducible rfl)
        simp only [Act.put,sA,sB,sC]
        refine tk 17 ⟨some 69,_,_,_,_,_⟩ ?_ rfl (by kernel_rfl) (fun _ _ _ h=>h) (by rfl) ?_ (by assumption) ?_
        rotate_left
        ·intro w hSw;(try dsimp only at hSw);go_simp;(all_goals with_reducible rfl)
        simp only [Act.put,sA,sB,sC]
        refine tk 18 ⟨some 70,_,_,_,_,_⟩ ?_ rfl (by kernel_rfl) (fun _ _ _ h=>h) (by rfl) ?_ (by assumption) ?_
        rotate_left
        ·intro w hSw;(try dsimp only at hSw);go_simp;(all_goals with_reducible rfl)
        simp only [Act.put,sA,sB,sC]
        refine tk 21 ⟨some 73,_,_,_,_,_⟩ ?_ rfl (by kernel_rfl) (fun _ _ _ h=>h) (by rfl) ?_ (by assumption) ?_
        rotate_left
        ·intro w hSw;(try dsimp only at hSw);go_simp;(all_goals with_reducible rfl)
        simp only [Act.put,sA,sB,sC]
        refine tk 22 ⟨some 74,_,_,_,_,_⟩ ?_ rfl (by kernel_rfl) (fun _ _ _ h=>h) (by rfl) ?_ (by assumption) ?_
        rotate_left
        ·intro w hSw;(try dsimp only at hSw);go_simp;(all_goals with_reducible rfl)
        simp only [Act.put,sA,sB,sC]
        refine tk 23 ⟨some 75,_,_,_,_,_⟩ ?_ rfl (by kernel_rfl) (fun _ _ _ h=>h) (by rfl) ?_ (by assumption) ?_
        rotate_left
        ·intro w hSw;(try dsimp only at hSw);go_simp;(all_goals with_reducible rfl)
        simp only [Act.put,sA,sB,sC]
        refine wpAnyH_ready (rs:=[19]) (by kernel_rfl) (by simp) ?_
        refine AllReadyH.cons (o:=⟨some 71,_,_,_,_,_⟩) rfl (fun K hK=>?_) AllReadyH.nil
        go_simp
        refine(CA1.out _ (HST.out.keep hHeld.2.2.2.2.2.2.2.2.2.2.2.2.2.2.2.2.2.2.2)).mono ?_;rintro e7 w7 ⟨A7,c7,rfl,k7⟩;have s7:=keept19 k7 hHeld
        go_wp2_with fail
        refine hK.out _ _ ?_ (fun hHeld=>?_)
        ·(try dsimp only);(first | assumption | exact s7 | exact s6 | exact s5)
        clear hK K
        try simp only [Act.put,sA,sB,sC]
        refine tk 20 ⟨some 72,_,_,_,_,_⟩ ?_ rfl (by kernel_rfl) (fun _ _ _ h=>h) (by rfl) ?_ (by assumption) ?_
        rotate_left
        ·intro w hSw;(try dsimp only at hSw);go_simp;(all_goals with_reducible rfl)
        simp only [Act.put,sA,sB,sC]
        refine tk 24 ⟨some 76,_,_,_,_,_⟩ ?_ rfl (by kernel_rfl) (fun _ _ _ h=>h) (by rfl) ?_ (by assumption) ?_
        rotate_left
        ·intro w hSw;(try dsimp only at hSw);go_simp;(all_goals with_reducible rfl)
        simp only [Act.put,sA,sB,sC]
        refine tk 25 ⟨some 77,_,_,_,_,_⟩ ?_ rfl (by kernel_rfl) (fun _ _ _ h=>h) (by rfl) ?_ (by assumption) ?_
        rotate_left
        ·intro w hSw;(try dsimp only at hSw);go_simp;(all_goals with_reducible rfl)
        simp only [Act.put,sA,sB,sC]
        refine tk 26 ⟨some 78,_,_,_,_,_⟩ ?_ rfl (by kernel_rfl) (fun _ _ _ h=>h) (by rfl) ?_ (by assumption) ?_
        rotate_left
        ·intro w hSw;(try dsimp only at hSw);go_simp;(all_goals with_reducible rfl)
        simp only [Act.put,sA,sB,sC]
        refine wpAnyH_done (by kernel_rfl) ?_ _
        have s9:=hHeld
        go_wp2_with fail
        go_ret
        exact⟨ret_bool (by rw [HR2.out,Bool.and_false]),s9.2.2.2.2.2.2.2.2.2.2.2.2.2.2.2.2.2.2.2⟩
      ·have hgt:decide (0<(n0:Int))=true:=decide_eq_true (by omega)
       have hgt':decide (0<n0)=true:=decide_eq_true (by omega)
       have HR2:Hid (R2=false):=Lib.hid (by rw [← hE.out,HX.out,List.all_cons,HG.out];simp [hz])
       clear HG hz
       go_upto_region 12 with (fail)
       have kbw:Kp wr (wr.alloc (.cells #[.int .i64 sx,.int .i64 kx,.int .i64 ax,.int .i64 tx] 152)):=(Kp.refl wr).alloc _
       have s4:cb12 (wr.alloc (.cells #[.int .i64 sx,.int .i64 kx,.int .i64 ax,.int .i64 tx] 152)) (w.heap.size) (.slice At nt ct) (.slice Ak nk ck) (.int .i64 a) (.int .i64 b) (.int .i64 c) (.int .i64 d) (.int .i64 e) (.int .i64 W) (.int .i64 H) (x) (r) (y) (cb3 (wr.alloc (.cells #[.int .i64 sx,.int .i64 kx,.int .i64 ax,.int .i64 tx] 152)) (w.heap.size+1) (.int .i64 T) (.int .i64 Z) (.slice (some ⟨g,off,none⟩) q cp) (cb4 (wr.alloc (.cells #[.int .i64 sx,.int .i64 kx,.int .i64 ax,.int .i64 tx] 152)) (wr.heap.size) (.int .i64 sx) (.int .i64 kx) (.int .i64 ax) (.int .i64 tx) (Kp w (wr.alloc (.cells #[.int .i64 sx,.int .i64 kx,.int .i64 ax,.int .i64 tx] 152))))):=⟨kbw.cell sr.1,kbw.cell sr.2.1,kbw.cell sr.2.2.1,kbw.cell sr.2.2.2.1,kbw.cell sr.2.2.2.2.1,kbw.cell sr.2.2.2.2.2.1,kbw.cell sr.2.2.2.2.2.2.1,kbw.cell sr.2.2.2.2.2.2.2.1,kbw.cell sr.2.2.2.2.2.2.2.2.1,kbw.cell sr.2.2.2.2.2.2.2.2.2.1,kbw.cell sr.2.2.2.2.2.2.2.2.2.2.1,kbw.cell sr.2.2.2.2.2.2.2.2.2.2.2.1,kbw.cell sr.2.2.2.2.2.2.2.2.2.2.2.2.1,kbw.cell sr.2.2.2.2.2.2.2.2.2.2.2.2.2.1,kbw.cell sr.2.2.2.2.2.2.2.2.2.2.2.2.2.2.1,by simp [go_sem],by simp [go_sem],by simp [go_sem],by simp [go_sem],sr.2.2.2.2.2.2.2.2.2.2.2.2.2.2.2.trans kbw⟩
       generalize wr.alloc (.cells #[.int .i64 sx,.int .i64 kx,.int .i64 ax,.int .i64 tx] 152)=W1 at *
       have s5:=drewt19 s4
       refine wp_region_held_drew (S:=(fun w'=>cb12 w' (w.heap.size) (.slice At nt ct) (.slice Ak nk ck) (.int .i64 a) (.int .i64 b) (.int .i64 c) (.int .i64 d) (.int .i64 e) (.int .i64 W) (.int .i64 H) (x) (r) (y) (cb3 w' (w.heap.size+1) (.int .i64 T) (.int .i64 Z) (.slice (some ⟨g,off,none⟩) q cp) (cb4 w' (wr.heap.size) (.int .i64 sx) (.int .i64 kx) (.int .i64 ax) (.int .i64 tx) (Kp w w'))))) (by kernel_rfl) ?_ (fun hHeld=>?_)
       ·exact s5
       refine tk 0 ⟨some 52,_,_,_,_,_⟩ ?_ rfl (by kernel_rfl) (fun _ _ _ h=>h) (by rfl) ?_ (by assumption) ?_
       rotate_left
       ·intro w hSw;(try dsimp only at hSw);go_simp;(all_goals with_reducible rfl)
       simp only [Act.put,sA,sB,sC]
       refine tk 1 ⟨some 53,_,_,_,_,_⟩ ?_ rfl (by kernel_rfl) (fun _ _ _ h=>h) (by rfl) ?_ (by assumption) ?_
       rotate_left
       ·intro w hSw;(try dsimp only at hSw);go_simp;(all_goals with_reducible rfl)
       simp only [Act.put,sA,sB,sC]
       refine tk 2 ⟨some 54,_,_,_,_,_⟩ ?_ rfl (by kernel_rfl) (fun _ _ _ h=>h) (by rfl) ?_ (by assumption) ?_
       rotate_left
       ·intro w hSw;(try dsimp only at hSw);go_simp;(all_goals with_reducible rfl)
       simp only [Act.put,sA,sB,sC]
       refine tk 3 ⟨some 55,_,_,_,_,_⟩ ?_ rfl (by kernel_rfl) (fun _ _ _ h=>h) (by rfl) ?_ (by assumption) ?_
       rotate_left
       ·intro w hSw;(try dsimp only at hSw);go_simp;(all_goals with_reducible rfl)
       simp only [Act.put,sA,sB,sC]
       refine tk 4 ⟨some 56,_,_,_,_,_⟩ ?_ rfl (by kernel_rfl) (fun _ _ _ h=>h) (by rfl) ?_ (by assumption) ?_
       rotate_left
       ·intro w hSw;(try dsimp only at hSw);go_simp;(all_goals with_reducible rfl)
       simp only [Act.put,sA,sB,sC]
       refine tk 5 ⟨some 57,_,_,_,_,_⟩ ?_ rfl (by kernel_rfl) (fun _ _ _ h=>h) (by rfl) ?_ (by assumption) ?_
       rotate_left
       ·intro w hSw;(try dsimp only at hSw);go_simp;(all_goals with_reducible rfl)
       simp only [Act.put,sA,sB,sC]
       refine tk 6 ⟨some 58,_,_,_,_,_⟩ ?_ rfl (by kernel_rfl) (fun _ _ _ h=>h) (by rfl) ?_ (by assumption) ?_
       rotate_left
       ·intro w hSw;(try dsimp only at hSw);go_simp;(all_goals with_reducible rfl)
       simp only [Act.put,sA,sB,sC]
       refine tk 7 ⟨some 59,_,_,_,_,_⟩ ?_ rfl (by kernel_rfl) (fun _ _ _ h=>h) (by rfl) ?_ (by assumption) ?_
       rotate_left
       ·intro w hSw;(try dsimp only at hSw);go_simp;(all_goals with_reducible rfl)
       simp only [Act.put,sA,sB,sC]
       refine tk 8 ⟨some 60,_,_,_,_,_⟩ ?_ rfl (by kernel_rfl) (fun _ _ _ h=>h) (by rfl) ?_ (by assumption) ?_
       rotate_left
       ·intro w hSw;(try dsimp only at hSw);go_simp;(all_goals with_reducible rfl)
       simp only [Act.put,sA,sB,sC]
       refine tk 9 ⟨some 61,_,_,_,_,_⟩ ?_ rfl (by kernel_rfl) (fun _ _ _ h=>h) (by rfl) ?_ (by assumption) ?_
       rotate_left
       ·intro w hSw;(try dsimp only at hSw);go_simp;(all_goals with_reducible rfl)
       simp only [Act.put,sA,sB,sC]
       refine wpAnyH_ready (rs:=[10]) (by kernel_rfl) (by simp) ?_
       refine AllReadyH.cons (o:=⟨some 62,_,_,_,_,_⟩) rfl (fun K hK=>?_) AllReadyH.nil
       go_simp
       refine(CA0.out _ (HST.out.keep hHeld.2.2.2.2.2.2.2.2.2.2.2.2.2.2.2.2.2.2.2)).mono ?_;rintro e6 w6 ⟨A6,c6,rfl,k6⟩;have s6:=keept19 k6 hHeld
       go_wp2_with fail
       refine hK.out _ _ ?_ (fun hHeld=>?_)
       ·(try dsimp only);(first | assumption | exact s7 | exact s6 | exact s5)
       clear hK K
       try simp only [Act.put,sA,sB,sC]
       refine tk 11 ⟨some 63,_,_,_,_,_⟩ ?_ rfl (by kernel_rfl) (fun _ _ _ h=>h) (by rfl) ?_ (by assumption) ?_
       rotate_left
       ·intro w hSw;(try dsimp only at hSw);go_simp;(all_goals with_reducible rfl)
       simp only [Act.put,sA,sB,sC]
       refine tk 12 ⟨some 64,_,_,_,_,_⟩ ?_ rfl (by kernel_rfl) (fun _ _ _ h=>h) (by rfl) ?_ (by assumption) ?_
       rotate_left
       ·intro w hSw;(try dsimp only at hSw);go_simp;(all_goals with_reducible rfl)
       simp only [Act.put,sA,sB,sC]
       refine tk 13 ⟨some 65,_,_,_,_,_⟩ ?_ rfl (by kernel_rfl) (fun _ _ _ h=>h) (by rfl) ?_ (by assumption) ?_
       rotate_left
       ·intro w hSw;(try dsimp only at hSw);go_simp;(all_goals with_reducible rfl)
       simp only [Act.put,sA,sB,sC]
       refine tn 14 ⟨some 66,_,_,_,_,_⟩ rfl (by kernel_rfl) (fun _ _ _ h=>h) (by rfl) (by assumption) ?_
       simp only [Act.put,sA,sB,sC]
       refine tn 15 ⟨some 67,_,_,_,_,_⟩ rfl (by kernel_rfl) (fun _ _ _ h=>h) (by rfl) (by assumption) ?_
       simp only [Act.put,sA,sB,sC]
       refine tn 16 ⟨some 68,_,_,_,_,_⟩ rfl (by kernel_rfl) (fun _ _ _ h=>h) (by rfl) (by assumption) ?_
       simp only [Act.put,sA,sB,sC]
       refine tn 17 ⟨some 69,_,_,_,_,_⟩ rfl (by kernel_rfl) (fun _ _ _ h=>h) (by rfl) (by assumption) ?_
       simp only [Act.put,sA,sB,sC]
       refine tn 18 ⟨some 70,_,_,_,_,_⟩ rfl (by kernel_rfl) (fun _ _ _ h=>h) (by rfl) (by assumption) ?_
       simp only [Act.put,sA,sB,sC]
       refine tn 21 ⟨some 73,_,_,_,_,_⟩ rfl (by kernel_rfl) (fun _ _ _ h=>h) (by rfl) (by assumption) ?_
       simp only [Act.put,sA,sB,sC]
       refine tn 22 ⟨some 74,_,_,_,_,_⟩ rfl (by kernel_rfl) (fun _ _ _ h=>h) (by rfl) (by assumption) ?_
       simp only [Act.put,sA,sB,sC]
       refine tn 23 ⟨some 75,_,_,_,_,_⟩ rfl (by kernel_rfl) (fun _ _ _ h=>h) (by rfl) (by assumption) ?_
       simp only [Act.put,sA,sB,sC]
       refine wpAnyH_ready (rs:=[19]) (by kernel_rfl) (by simp) ?_
       refine AllReadyH.cons (o:=⟨some 71,_,_,_,_,_⟩) rfl (fun K hK=>?_) AllReadyH.nil
       go_simp
       refine hK.out _ _ ?_ (fun hHeld=>?_)
       ·(try dsimp only);(first | assumption | exact s7 | exact s6 | exact s5)
       clear hK K
       try simp only [Act.put,sA,sB,sC]
       refine tn 20 ⟨some 72,_,_,_,_,_⟩ rfl (by kernel_rfl) (fun _ _ _ h=>h) (by rfl) (by assumption) ?_
       simp only [Act.put,sA,sB,sC]
       refine tn 24 ⟨some 76,_,_,_,_,_⟩ rfl (by kernel_rfl) (fun _ _ _ h=>h) (by rfl) (by assumption) ?_
       simp only [Act.put,sA,sB,sC]
       refine tk 25 ⟨some 77,_,_,_,_,_⟩ ?_ rfl (by kernel_rfl) (fun _ _ _ h=>h) (by rfl) ?_ (by assumption) ?_
       rotate_left
       ·intro w hSw;(try dsimp only at hSw);go_simp;(all_goals with_reducible rfl)
       simp only [Act.put,sA,sB,sC]
       refine tk 26 ⟨some 78,_,_,_,_,_⟩ ?_ rfl (by kernel_rfl) (fun _ _ _ h=>h) (by rfl) ?_ (by assumption) ?_
       rotate_left
       ·intro w hSw;(try dsimp only at hSw);go_simp;(all_goals with_reducible rfl)
       simp only [Act.put,sA,sB,sC]
       refine wpAnyH_done (by kernel_rfl) ?_ _
       have s9:=hHeld
       go_wp2_with fail
       go_ret
       exact⟨ret_bool (by rw [HR2.out,Bool.and_false]),s9.2.2.2.2.2.2.2.2.2.2.2.2.2.2.2.2.2.2.2⟩
    ·obtain rfl:k=q:=by omega
     have HR2:Hid (R2=true):=Lib.hid (by
      rw [← hE.out,List.drop_of_length_le (by rw [HN.out];omega)]
      rfl)
     go_wp2_with fail
     go_ret
     exact⟨ret_bool (by rw [HR1.out,HR2.out,Bool.true_and]),sr.2.2.2.2.2.2.2.2.2.2.2.2.2.2.2⟩
end Go.Proofs.YtacgknllagdkoaaGreatDoor
