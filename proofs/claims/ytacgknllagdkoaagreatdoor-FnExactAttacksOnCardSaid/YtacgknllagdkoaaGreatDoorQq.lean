/-
 Texts of this seat in one module: UnS.
-/
import Derived.Deep.Cut
import Derived.Test.YtacgknllagdkoaaGreatDoorQj
import Derived.Test.YtacgknllagdkoaaGreatDoorQm
/-
 The reference's test of a unit for a valid board. Nothing that was there is changed.
-/
namespace Go.Proofs.YtacgknllagdkoaaGreatDoor
open Go.RowKit
theorem drews16 {W0 w:World} {p0 p1 p2 p3 p4 p5 p6 p7 p8 p9 p10 p11 p12 p13 p14 p15:Addr} {v0 v1 v2 v3 v4 v5 v6 v7 v8 v9 v10 v11 v12 v13 v14 v15:Value} (h:w.cell? p0=some v0∧w.cell? p1=some v1∧w.cell? p2=some v2∧w.cell? p3=some v3∧w.cell? p4=some v4∧w.cell? p5=some v5∧w.cell? p6=some v6∧w.cell? p7=some v7∧w.cell? p8=some v8∧w.cell? p9=some v9∧w.cell? p10=some v10∧w.cell? p11=some v11∧w.cell? p12=some v12∧w.cell? p13=some v13∧w.cell? p14=some v14∧w.cell? p15=some v15∧Kp W0 w):w.drew.cell? p0=some v0∧w.drew.cell? p1=some v1∧w.drew.cell? p2=some v2∧w.drew.cell? p3=some v3∧w.drew.cell? p4=some v4∧w.drew.cell? p5=some v5∧w.drew.cell? p6=some v6∧w.drew.cell? p7=some v7∧w.drew.cell? p8=some v8∧w.drew.cell? p9=some v9∧w.drew.cell? p10=some v10∧w.drew.cell? p11=some v11∧w.drew.cell? p12=some v12∧w.drew.cell? p13=some v13∧w.drew.cell? p14=some v14∧w.drew.cell? p15=some v15∧Kp W0 w.drew :=
 ⟨h.1,h.2.1,h.2.2.1,h.2.2.2.1,h.2.2.2.2.1,h.2.2.2.2.2.1,h.2.2.2.2.2.2.1,h.2.2.2.2.2.2.2.1,h.2.2.2.2.2.2.2.2.1,h.2.2.2.2.2.2.2.2.2.1,h.2.2.2.2.2.2.2.2.2.2.1,h.2.2.2.2.2.2.2.2.2.2.2.1,h.2.2.2.2.2.2.2.2.2.2.2.2.1,h.2.2.2.2.2.2.2.2.2.2.2.2.2.1,h.2.2.2.2.2.2.2.2.2.2.2.2.2.2.1,h.2.2.2.2.2.2.2.2.2.2.2.2.2.2.2.1,h.2.2.2.2.2.2.2.2.2.2.2.2.2.2.2.2.drew⟩
theorem keeps17 {W0 w w1:World} {p0 p1 p2 p3 p4 p5 p6 p7 p8 p9 p10 p11 p12 p13 p14 p15 p16:Addr} {v0 v1 v2 v3 v4 v5 v6 v7 v8 v9 v10 v11 v12 v13 v14 v15 v16:Value} (k:Kp w w1) (h:w.cell? p0=some v0∧w.cell? p1=some v1∧w.cell? p2=some v2∧w.cell? p3=some v3∧w.cell? p4=some v4∧w.cell? p5=some v5∧w.cell? p6=some v6∧w.cell? p7=some v7∧w.cell? p8=some v8∧w.cell? p9=some v9∧w.cell? p10=some v10∧w.cell? p11=some v11∧w.cell? p12=some v12∧w.cell? p13=some v13∧w.cell? p14=some v14∧w.cell? p15=some v15∧w.cell? p16=some v16∧Kp W0 w):w1.cell? p0=some v0∧w1.cell? p1=some v1∧w1.cell? p2=some v2∧w1.cell? p3=some v3∧w1.cell? p4=some v4∧w1.cell? p5=some v5∧w1.cell? p6=some v6∧w1.cell? p7=some v7∧w1.cell? p8=some v8∧w1.cell? p9=some v9∧w1.cell? p10=some v10∧w1.cell? p11=some v11∧w1.cell? p12=some v12∧w1.cell? p13=some v13∧w1.cell? p14=some v14∧w1.cell? p15=some v15∧w1.cell? p16=some v16∧Kp W0 w1 :=
 ⟨k.cell h.1,k.cell h.2.1,k.cell h.2.2.1,k.cell h.2.2.2.1,k.cell h.2.2.2.2.1,k.cell h.2.2.2.2.2.1,k.cell h.2.2.2.2.2.2.1,k.cell h.2.2.2.2.2.2.2.1,k.cell h.2.2.2.2.2.2.2.2.1,k.cell h.2.2.2.2.2.2.2.2.2.1,k.cell h.2.2.2.2.2.2.2.2.2.2.1,k.cell h.2.2.2.2.2.2.2.2.2.2.2.1,k.cell h.2.2.2.2.2.2.2.2.2.2.2.2.1,k.cell h.2.2.2.2.2.2.2.2.2.2.2.2.2.1,k.cell h.2.2.2.2.2.2.2.2.2.2.2.2.2.2.1,k.cell h.2.2.2.2.2.2.2.2.2.2.2.2.2.2.2.1,k.cell h.2.2.2.2.2.2.2.2.2.2.2.2.2.2.2.2.1,h.2.2.2.2.2.2.2.2.2.2.2.2.2.2.2.2.2.trans k⟩
theorem drews17 {W0 w:World} {p0 p1 p2 p3 p4 p5 p6 p7 p8 p9 p10 p11 p12 p13 p14 p15 p16:Addr} {v0 v1 v2 v3 v4 v5 v6 v7 v8 v9 v10 v11 v12 v13 v14 v15 v16:Value} (h:w.cell? p0=some v0∧w.cell? p1=some v1∧w.cell? p2=some v2∧w.cell? p3=some v3∧w.cell? p4=some v4∧w.cell? p5=some v5∧w.cell? p6=some v6∧w.cell? p7=some v7∧w.cell? p8=some v8∧w.cell? p9=some v9∧w.cell? p10=some v10∧w.cell? p11=some v11∧w.cell? p12=some v12∧w.cell? p13=some v13∧w.cell? p14=some v14∧w.cell? p15=some v15∧w.cell? p16=some v16∧Kp W0 w):w.drew.cell? p0=some v0∧w.drew.cell? p1=some v1∧w.drew.cell? p2=some v2∧w.drew.cell? p3=some v3∧w.drew.cell? p4=some v4∧w.drew.cell? p5=some v5∧w.drew.cell? p6=some v6∧w.drew.cell? p7=some v7∧w.drew.cell? p8=some v8∧w.drew.cell? p9=some v9∧w.drew.cell? p10=some v10∧w.drew.cell? p11=some v11∧w.drew.cell? p12=some v12∧w.drew.cell? p13=some v13∧w.drew.cell? p14=some v14∧w.drew.cell? p15=some v15∧w.drew.cell? p16=some v16∧Kp W0 w.drew :=
 ⟨h.1,h.2.1,h.2.2.1,h.2.2.2.1,h.2.2.2.2.1,h.2.2.2.2.2.1,h.2.2.2.2.2.2.1,h.2.2.2.2.2.2.2.1,h.2.2.2.2.2.2.2.2.1,h.2.2.2.2.2.2.2.2.2.1,h.2.2.2.2.2.2.2.2.2.2.1,h.2.2.2.2.2.2.2.2.2.2.2.1,h.2.2.2.2.2.2.2.2.2.2.2.2.1,h.2.2.2.2.2.2.2.2.2.2.2.2.2.1,h.2.2.2.2.2.2.2.2.2.2.2.2.2.2.1,h.2.2.2.2.2.2.2.2.2.2.2.2.2.2.2.1,h.2.2.2.2.2.2.2.2.2.2.2.2.2.2.2.2.1,h.2.2.2.2.2.2.2.2.2.2.2.2.2.2.2.2.2.drew⟩
set_option maxRecDepth 100000 in
set_option maxHeartbeats 4000000 in
theorem sUnit_no1 (At Ak:Option Addr) (nt nk ct ck:Nat) (a b c d e W H:Int) (x r y:Value) (sx kx ax tx:Int) (w:World) (h1:spB 0 1 sx=false) :
  Calls Tryz.prog 128 #[bv (.slice At nt ct) (.slice Ak nk ck) a b c d e W H x r y,ux sx kx ax tx] w fun e' w'=>e'=.returned (.bool false)∧Kp w w':=by
 have KA:Kp w ((w.alloc (.cells #[.slice At nt ct,.slice Ak nk ck,.int .i64 a,.int .i64 b,.int .i64 c,.int .i64 d,.int .i64 e,.int .i64 W,.int .i64 H,x,r,y] 47)).alloc (.cells #[.int .i64 sx,.int .i64 kx,.int .i64 ax,.int .i64 tx] 152)):=((Kp.refl w).alloc _).alloc _
 have s0:cb12 ((w.alloc (.cells #[.slice At nt ct,.slice Ak nk ck,.int .i64 a,.int .i64 b,.int .i64 c,.int .i64 d,.int .i64 e,.int .i64 W,.int .i64 H,x,r,y] 47)).alloc (.cells #[.int .i64 sx,.int .i64 kx,.int .i64 ax,.int .i64 tx] 152)) (w.heap.size) (.slice At nt ct) (.slice Ak nk ck) (.int .i64 a) (.int .i64 b) (.int .i64 c) (.int .i64 d) (.int .i64 e) (.int .i64 W) (.int .i64 H) (x) (r) (y) (cb4 ((w.alloc (.cells #[.slice At nt ct,.slice Ak nk ck,.int .i64 a,.int .i64 b,.int .i64 c,.int .i64 d,.int .i64 e,.int .i64 W,.int .i64 H,x,r,y] 47)).alloc (.cells #[.int .i64 sx,.int .i64 kx,.int .i64 ax,.int .i64 tx] 152)) (w.heap.size+1) (.int .i64 sx) (.int .i64 kx) (.int .i64 ax) (.int .i64 tx) (Kp w ((w.alloc (.cells #[.slice At nt ct,.slice Ak nk ck,.int .i64 a,.int .i64 b,.int .i64 c,.int .i64 d,.int .i64 e,.int .i64 W,.int .i64 H,x,r,y] 47)).alloc (.cells #[.int .i64 sx,.int .i64 kx,.int .i64 ax,.int .i64 tx] 152)))):=⟨by simp [go_sem],by simp [go_sem],by simp [go_sem],by simp [go_sem],by simp [go_sem],by simp [go_sem],by simp [go_sem],by simp [go_sem],by simp [go_sem],by simp [go_sem],by simp [go_sem],by simp [go_sem],by simp [go_sem],by simp [go_sem],by simp [go_sem],by simp [go_sem],KA⟩
 have CL1:Hid (∀ w,Calls Tryz.prog 63 #[.int .i64 sx,.int .i64 0,.int .i64 1] w fun e w'=>e=.returned (.bool false)∧w=w'):=Lib.hid fun w=>by
  have:=l1In_sp sx 0 1 w
  rw [h1] at this
  exact this
 clear h1 KA
 go_enter Tryz.func128,Tryz.ntmps128
 go_wp2_with fail
 generalize (w.alloc (.cells #[.slice At nt ct,.slice Ak nk ck,.int .i64 a,.int .i64 b,.int .i64 c,.int .i64 d,.int .i64 e,.int .i64 W,.int .i64 H,x,r,y] 47)).alloc (.cells #[.int .i64 sx,.int .i64 kx,.int .i64 ax,.int .i64 tx] 152)=W0 at *
 have s1:=drews16 s0
 refine wp_region_held_drew (S:=(fun w'=>cb12 w' (w.heap.size) (.slice At nt ct) (.slice Ak nk ck) (.int .i64 a) (.int .i64 b) (.int .i64 c) (.int .i64 d) (.int .i64 e) (.int .i64 W) (.int .i64 H) (x) (r) (y) (cb4 w' (w.heap.size+1) (.int .i64 sx) (.int .i64 kx) (.int .i64 ax) (.int .i64 tx) (Kp w w')))) (by kernel_rfl) ?_ (fun hHeld=>?_)
 ·exact s1
 refine tk 0 ⟨some 5,_,_,_,_,_⟩ ?_ rfl (by kernel_rfl) (fun _ _ _ h=>h) (by rfl) ?_ (by assumption) ?_
 rotate_left
 ·intro w hSw;(try dsimp only at hSw);go_simp;(all_goals with_reducible rfl)
 simp only [Act.put,sA,sB,sC]
 refine tk 1 ⟨some 6,_,_,_,_,_⟩ ?_ rfl (by kernel_rfl) (fun _ _ _ h=>h) (by rfl) ?_ (by assumption) ?_
 rotate_left
 ·intro w hSw;(try dsimp only at hSw);go_simp;(all_goals with_reducible rfl)
 simp only [Act.put,sA,sB,sC]
 refine wpAnyH_ready (rs:=[2]) (by kernel_rfl) (by simp) ?_
 refine AllReadyH.cons (o:=⟨some 7,_,_,_,_,_⟩) rfl (fun K hK=>?_) AllReadyH.nil
 go_simp
 refine(CL1.out _).mono ?_;rintro e1 w1 ⟨rfl,rfl⟩
 go_wp2_with fail
 refine hK.out _ _ ?_ (fun hHeld=>?_)
 ·(try dsimp only);(first | assumption | exact s1)
 clear hK K
 try simp only [Act.put,sA,sB,sC]
 refine tk 3 ⟨some 8,_,_,_,_,_⟩ ?_ rfl (by kernel_rfl) (fun _ _ _ h=>h) (by rfl) ?_ (by assumption) ?_
 rotate_left
 ·intro w hSw;(try dsimp only at hSw);go_simp;(all_goals with_reducible rfl)
 simp only [Act.put,sA,sB,sC]
 refine tk 4 ⟨some 9,_,_,_,_,_⟩ ?_ rfl (by kernel_rfl) (fun _ _ _ h=>h) (by rfl) ?_ (by assumption) ?_
 rotate_left
 ·intro w hSw;(try dsimp only at hSw);go_simp;(all_goals with_reducible rfl)
 simp only [Act.put,sA,sB,sC]
 refine tn 5 ⟨some 10,_,_,_,_,_⟩ rfl (by kernel_rfl) (fun _ _ _ h=>h) (by rfl) (by assumption) ?_
 simp only [Act.put,sA,sB,sC]
 refine tn 6 ⟨some 11,_,_,_,_,_⟩ rfl (by kernel_rfl) (fun _ _ _ h=>h) (by rfl) (by assumption) ?_
 simp only [Act.put,sA,sB,sC]
 refine tn 7 ⟨some 12,_,_,_,_,_⟩ rfl (by kernel_rfl) (fun _ _ _ h=>h) (by rfl) (by assumption) ?_
 simp only [Act.put,sA,sB,sC]
 refine tn 8 ⟨some 13,_,_,_,_,_⟩ rfl (by kernel_rfl) (fun _ _ _ h=>h) (by rfl) (by assumption) ?_
 simp only [Act.put,sA,sB,sC]
 refine tn 9 ⟨some 14,_,_,_,_,_⟩ rfl (by kernel_rfl) (fun _ _ _ h=>h) (by rfl) (by assumption) ?_
 simp only [Act.put,sA,sB,sC]
 refine tn 10 ⟨some 15,_,_,_,_,_⟩ rfl (by kernel_rfl) (fun _ _ _ h=>h) (by rfl) (by assumption) ?_
 simp only [Act.put,sA,sB,sC]
 refine tn 11 ⟨some 16,_,_,_,_,_⟩ rfl (by kernel_rfl) (fun _ _ _ h=>h) (by rfl) (by assumption) ?_
 simp only [Act.put,sA,sB,sC]
 refine wpAnyH_ready (rs:=[12]) (by kernel_rfl) (by simp) ?_
 refine AllReadyH.cons (o:=⟨some 17,_,_,_,_,_⟩) rfl (fun K hK=>?_) AllReadyH.nil
 go_simp
 refine hK.out _ _ ?_ (fun hHeld=>?_)
 ·(try dsimp only);(first | assumption | exact s1)
 clear hK K
 try simp only [Act.put,sA,sB,sC]
 refine tn 13 ⟨some 18,_,_,_,_,_⟩ rfl (by kernel_rfl) (fun _ _ _ h=>h) (by rfl) (by assumption) ?_
 simp only [Act.put,sA,sB,sC]
 refine tk 14 ⟨some 19,_,_,_,_,_⟩ ?_ rfl (by kernel_rfl) (fun _ _ _ h=>h) (by rfl) ?_ (by assumption) ?_
 rotate_left
 ·intro w hSw;(try dsimp only at hSw);go_simp;(all_goals with_reducible rfl)
 simp only [Act.put,sA,sB,sC]
 refine tk 15 ⟨some 20,_,_,_,_,_⟩ ?_ rfl (by kernel_rfl) (fun _ _ _ h=>h) (by rfl) ?_ (by assumption) ?_
 rotate_left
 ·intro w hSw;(try dsimp only at hSw);go_simp;(all_goals with_reducible rfl)
 simp only [Act.put,sA,sB,sC]
 refine tn 16 ⟨some 21,_,_,_,_,_⟩ rfl (by kernel_rfl) (fun _ _ _ h=>h) (by rfl) (by assumption) ?_
 simp only [Act.put,sA,sB,sC]
 refine tn 17 ⟨some 22,_,_,_,_,_⟩ rfl (by kernel_rfl) (fun _ _ _ h=>h) (by rfl) (by assumption) ?_
 simp only [Act.put,sA,sB,sC]
 refine tn 18 ⟨some 23,_,_,_,_,_⟩ rfl (by kernel_rfl) (fun _ _ _ h=>h) (by rfl) (by assumption) ?_
 simp only [Act.put,sA,sB,sC]
 refine tn 19 ⟨some 24,_,_,_,_,_⟩ rfl (by kernel_rfl) (fun _ _ _ h=>h) (by rfl) (by assumption) ?_
 simp only [Act.put,sA,sB,sC]
 refine tn 20 ⟨some 25,_,_,_,_,_⟩ rfl (by kernel_rfl) (fun _ _ _ h=>h) (by rfl) (by assumption) ?_
 simp only [Act.put,sA,sB,sC]
 refine tn 21 ⟨some 26,_,_,_,_,_⟩ rfl (by kernel_rfl) (fun _ _ _ h=>h) (by rfl) (by assumption) ?_
 simp only [Act.put,sA,sB,sC]
 refine tn 22 ⟨some 27,_,_,_,_,_⟩ rfl (by kernel_rfl) (fun _ _ _ h=>h) (by rfl) (by assumption) ?_
 simp only [Act.put,sA,sB,sC]
 refine tn 23 ⟨some 28,_,_,_,_,_⟩ rfl (by kernel_rfl) (fun _ _ _ h=>h) (by rfl) (by assumption) ?_
 simp only [Act.put,sA,sB,sC]
 refine tn 24 ⟨some 29,_,_,_,_,_⟩ rfl (by kernel_rfl) (fun _ _ _ h=>h) (by rfl) (by assumption) ?_
 simp only [Act.put,sA,sB,sC]
 refine tn 25 ⟨some 30,_,_,_,_,_⟩ rfl (by kernel_rfl) (fun _ _ _ h=>h) (by rfl) (by assumption) ?_
 simp only [Act.put,sA,sB,sC]
 refine wpAnyH_ready (rs:=[26]) (by kernel_rfl) (by simp) ?_
 refine AllReadyH.cons (o:=⟨some 31,_,_,_,_,_⟩) rfl (fun K hK=>?_) AllReadyH.nil
 go_simp
 refine hK.out _ _ ?_ (fun hHeld=>?_)
 ·(try dsimp only);(first | assumption | exact s1)
 clear hK K
 try simp only [Act.put,sA,sB,sC]
 refine tn 27 ⟨some 32,_,_,_,_,_⟩ rfl (by kernel_rfl) (fun _ _ _ h=>h) (by rfl) (by assumption) ?_
 simp only [Act.put,sA,sB,sC]
 refine tk 28 ⟨some 33,_,_,_,_,_⟩ ?_ rfl (by kernel_rfl) (fun _ _ _ h=>h) (by rfl) ?_ (by assumption) ?_
 rotate_left
 ·intro w hSw;(try dsimp only at hSw);go_simp;(all_goals with_reducible rfl)
 simp only [Act.put,sA,sB,sC]
 refine wpAnyH_done (by kernel_rfl) ?_ _
 go_wp2_with fail
 go_ret
 exact⟨rfl,hHeld.2.2.2.2.2.2.2.2.2.2.2.2.2.2.2.2⟩
set_option maxRecDepth 100000 in
set_option maxHeartbeats 4000000 in
theorem sUnit_no2 (At Ak:Option Addr) (nt nk ct ck:Nat) (a b c d e W H:Int) (x r y:Value) (sx kx ax tx:Int) (w:World) (hbk:nk≤1048576) (h1:spB 0 1 sx=true) (h2:inB kx nk=false) :
  Calls Tryz.prog 128 #[bv (.slice At nt ct) (.slice Ak nk ck) a b c d e W H x r y,ux sx kx ax tx] w fun e' w'=>e'=.returned (.bool false)∧Kp w w':=by
 have KA:Kp w ((w.alloc (.cells #[.slice At nt ct,.slice Ak nk ck,.int .i64 a,.int .i64 b,.int .i64 c,.int .i64 d,.int .i64 e,.int .i64 W,.int .i64 H,x,r,y] 47)).alloc (.cells #[.int .i64 sx,.int .i64 kx,.int .i64 ax,.int .i64 tx] 152)):=((Kp.refl w).alloc _).alloc _
 have s0:cb12 ((w.alloc (.cells #[.slice At nt ct,.slice Ak nk ck,.int .i64 a,.int .i64 b,.int .i64 c,.int .i64 d,.int .i64 e,.int .i64 W,.int .i64 H,x,r,y] 47)).alloc (.cells #[.int .i64 sx,.int .i64 kx,.int .i64 ax,.int .i64 tx] 152)) (w.heap.size) (.slice At nt ct) (.slice Ak nk ck) (.int .i64 a) (.int .i64 b) (.int .i64 c) (.int .i64 d) (.int .i64 e) (.int .i64 W) (.int .i64 H) (x) (r) (y) (cb4 ((w.alloc (.cells #[.slice At nt ct,.slice Ak nk ck,.int .i64 a,.int .i64 b,.int .i64 c,.int .i64 d,.int .i64 e,.int .i64 W,.int .i64 H,x,r,y] 47)).alloc (.cells #[.int .i64 sx,.int .i64 kx,.int .i64 ax,.int .i64 tx] 152)) (w.heap.size+1) (.int .i64 sx) (.int .i64 kx) (.int .i64 ax) (.int .i64 tx) (Kp w ((w.alloc (.cells #[.slice At nt ct,.slice Ak nk ck,.int .i64 a,.int .i64 b,.int .i64 c,.int .i64 d,.int .i64 e,.int .i64 W,.int .i64 H,x,r,y] 47)).alloc (.cells #[.int .i64 sx,.int .i64 kx,.int .i64 ax,.int .i64 tx] 152)))):=⟨by simp [go_sem],by simp [go_sem],by simp [go_sem],by simp [go_sem],by simp [go_sem],by simp [go_sem],by simp [go_sem],by simp [go_sem],by simp [go_sem],by simp [go_sem],by simp [go_sem],by simp [go_sem],by simp [go_sem],by simp [go_sem],by simp [go_sem],by simp [go_sem],KA⟩
 have CL1:Hid (∀ w,Calls Tryz.prog 63 #[.int .i64 sx,.int .i64 0,.int .i64 1] w fun e w'=>e=.returned (.bool true)∧w=w'):=Lib.hid fun w=>by
  have:=l1In_sp sx 0 1 w
  rw [h1] at this
  exact this
 have CL2:Hid (∀ w,Calls Tryz.prog 63 #[.int .i64 kx,.int .i64 0,.int .i64 ((nk:Int) - 1)] w fun e w'=>e=.returned (.bool false)∧w=w'):=Lib.hid fun w=>by
  have:=l1In_lt kx nk _ w rfl
  rw [h2] at this
  exact this
 have ewk:IntKind.i64.wrap ((nk:Int) - 1)=(nk:Int) - 1:=IntWalk.i64_in _ (by omega)
 clear h1 h2 KA
 go_enter Tryz.func128,Tryz.ntmps128
 go_wp2_with fail
 generalize (w.alloc (.cells #[.slice At nt ct,.slice Ak nk ck,.int .i64 a,.int .i64 b,.int .i64 c,.int .i64 d,.int .i64 e,.int .i64 W,.int .i64 H,x,r,y] 47)).alloc (.cells #[.int .i64 sx,.int .i64 kx,.int .i64 ax,.int .i64 tx] 152)=W0 at *
 have s1:=drews16 s0
 refine wp_region_held_drew (S:=(fun w'=>cb12 w' (w.heap.size) (.slice At nt ct) (.slice Ak nk ck) (.int .i64 a) (.int .i64 b) (.int .i64 c) (.int .i64 d) (.int .i64 e) (.int .i64 W) (.int .i64 H) (x) (r) (y) (cb4 w' (w.heap.size+1) (.int .i64 sx) (.int .i64 kx) (.int .i64 ax) (.int .i64 tx) (Kp w w')))) (by kernel_rfl) ?_ (fun hHeld=>?_)
 ·exact s1
 refine tk 0 ⟨some 5,_,_,_,_,_⟩ ?_ rfl (by kernel_rfl) (fun _ _ _ h=>h) (by rfl) ?_ (by assumption) ?_
 rotate_left
 ·intro w hSw;(try dsimp only at hSw);go_simp;(all_goals with_reducible rfl)
 simp only [Act.put,sA,sB,sC]
 refine tk 1 ⟨some 6,_,_,_,_,_⟩ ?_ rfl (by kernel_rfl) (fun _ _ _ h=>h) (by rfl) ?_ (by assumption) ?_
 rotate_left
 ·intro w hSw;(try dsimp only at hSw);go_simp;(all_goals with_reducible rfl)
 simp only [Act.put,sA,sB,sC]
 refine wpAnyH_ready (rs:=[2]) (by kernel_rfl) (by simp) ?_
 refine AllReadyH.cons (o:=⟨some 7,_,_,_,_,_⟩) rfl (fun K hK=>?_) AllReadyH.nil
 go_simp
 refine(CL1.out _).mono ?_;rintro e1 w1 ⟨rfl,rfl⟩
 go_wp2_with fail
 refine hK.out _ _ ?_ (fun hHeld=>?_)
 ·(try dsimp only);(first | assumption | exact s1)
 clear hK K
 try simp only [Act.put,sA,sB,sC]
 refine tk 3 ⟨some 8,_,_,_,_,_⟩ ?_ rfl (by kernel_rfl) (fun _ _ _ h=>h) (by rfl) ?_ (by assumption) ?_
 rotate_left
 ·intro w hSw;(try dsimp only at hSw);go_simp;(all_goals with_reducible rfl)
 simp only [Act.put,sA,sB,sC]
 refine tk 4 ⟨some 9,_,_,_,_,_⟩ ?_ rfl (by kernel_rfl) (fun _ _ _ h=>h) (by rfl) ?_ (by assumption) ?_
 rotate_left
 ·intro w hSw;(try dsimp only at hSw);go_simp;(all_goals with_reducible rfl)
 simp only [Act.put,sA,sB,sC]
 refine tk 5 ⟨some 10,_,_,_,_,_⟩ ?_ rfl (by kernel_rfl) (fun _ _ _ h=>h) (by rfl) ?_ (by assumption) ?_
 rotate_left
 ·intro w hSw;(try dsimp only at hSw);go_simp;(all_goals with_reducible rfl)
 simp only [Act.put,sA,sB,sC]
 refine tk 6 ⟨some 11,_,_,_,_,_⟩ ?_ rfl (by kernel_rfl) (fun _ _ _ h=>h) (by rfl) ?_ (by assumption) ?_
 rotate_left
 ·intro w hSw;(try dsimp only at hSw);go_simp;(all_goals with_reducible rfl)
 simp only [Act.put,sA,sB,sC]
 refine tk 7 ⟨some 12,_,_,_,_,_⟩ ?_ rfl (by kernel_rfl) (fun _ _ _ h=>h) (by rfl) ?_ (by assumption) ?_
 rotate_left
 ·intro w hSw;(try dsimp only at hSw);go_simp;(all_goals with_reducible rfl)
 simp only [Act.put,sA,sB,sC]
 refine tk 8 ⟨some 13,_,_,_,_,_⟩ ?_ rfl (by kernel_rfl) (fun _ _ _ h=>h) (by rfl) ?_ (by assumption) ?_
 rotate_left
 ·intro w hSw;(try dsimp only at hSw);go_simp;(all_goals with_reducible rfl)
 simp only [Act.put,sA,sB,sC]
 refine tk 9 ⟨some 14,_,_,_,_,_⟩ ?_ rfl (by kernel_rfl) (fun _ _ _ h=>h) (by rfl) ?_ (by assumption) ?_
 rotate_left
 ·intro w hSw;(try dsimp only at hSw);go_simp;(all_goals with_reducible rfl)
 simp only [Act.put,sA,sB,sC]
 refine tk 10 ⟨some 15,_,_,_,_,_⟩ ?_ rfl (by kernel_rfl) (fun _ _ _ h=>h) (by rfl) ?_ (by assumption) ?_
 rotate_left
 ·intro w hSw;(try dsimp only at hSw);go_simp;(all_goals with_reducible rfl)
 simp only [Act.put,sA,sB,sC]
 refine tk 11 ⟨some 16,_,_,_,_,_⟩ ?_ rfl (by kernel_rfl) (fun _ _ _ h=>h) (by rfl) ?_ (by assumption) ?_
 rotate_left
 ·intro w hSw;(try dsimp only at hSw);go_simp;(all_goals with_reducible rfl)
 simp only [Act.put,sA,sB,sC]
 refine wpAnyH_ready (rs:=[12]) (by kernel_rfl) (by simp) ?_
 refine AllReadyH.cons (o:=⟨some 17,_,_,_,_,_⟩) rfl (fun K hK=>?_) AllReadyH.nil
 go_simp
 refine(CL2.out _).mono ?_;rintro e2 w2 ⟨rfl,rfl⟩
 go_wp2_with fail
 refine hK.out _ _ ?_ (fun hHeld=>?_)
 ·(try dsimp only);(first | assumption | exact s1)
 clear hK K
 try simp only [Act.put,sA,sB,sC]
 refine tk 13 ⟨some 18,_,_,_,_,_⟩ ?_ rfl (by kernel_rfl) (fun _ _ _ h=>h) (by rfl) ?_ (by assumption) ?_
 rotate_left
 ·intro w hSw;(try dsimp only at hSw);go_simp;(all_goals with_reducible rfl)
 simp only [Act.put,sA,sB,sC]
 refine tk 14 ⟨some 19,_,_,_,_,_⟩ ?_ rfl (by kernel_rfl) (fun _ _ _ h=>h) (by rfl) ?_ (by assumption) ?_
 rotate_left
 ·intro w hSw;(try dsimp only at hSw);go_simp;(all_goals with_reducible rfl)
 simp only [Act.put,sA,sB,sC]
 refine tk 15 ⟨some 20,_,_,_,_,_⟩ ?_ rfl (by kernel_rfl) (fun _ _ _ h=>h) (by rfl) ?_ (by assumption) ?_
 rotate_left
 ·intro w hSw;(try dsimp only at hSw);go_simp;(all_goals with_reducible rfl)
 simp only [Act.put,sA,sB,sC]
 refine tn 16 ⟨some 21,_,_,_,_,_⟩ rfl (by kernel_rfl) (fun _ _ _ h=>h) (by rfl) (by assumption) ?_
 simp only [Act.put,sA,sB,sC]
 refine tn 17 ⟨some 22,_,_,_,_,_⟩ rfl (by kernel_rfl) (fun _ _ _ h=>h) (by rfl) (by assumption) ?_
 simp only [Act.put,sA,sB,sC]
 refine tn 18 ⟨some 23,_,_,_,_,_⟩ rfl (by kernel_rfl) (fun _ _ _ h=>h) (by rfl) (by assumption) ?_
 simp only [Act.put,sA,sB,sC]
 refine tn 19 ⟨some 24,_,_,_,_,_⟩ rfl (by kernel_rfl) (fun _ _ _ h=>h) (by rfl) (by assumption) ?_
 simp only [Act.put,sA,sB,sC]
 refine tn 20 ⟨some 25,_,_,_,_,_⟩ rfl (by kernel_rfl) (fun _ _ _ h=>h) (by rfl) (by assumption) ?_
 simp only [Act.put,sA,sB,sC]
 refine tn 21 ⟨some 26,_,_,_,_,_⟩ rfl (by kernel_rfl) (fun _ _ _ h=>h) (by rfl) (by assumption) ?_
 simp only [Act.put,sA,sB,sC]
 refine tn 22 ⟨some 27,_,_,_,_,_⟩ rfl (by kernel_rfl) (fun _ _ _ h=>h) (by rfl) (by assumption) ?_
 simp only [Act.put,sA,sB,sC]
 refine tn 23 ⟨some 28,_,_,_,_,_⟩ rfl (by kernel_rfl) (fun _ _ _ h=>h) (by rfl) (by assumption) ?_
 simp only [Act.put,sA,sB,sC]
 refine tn 24 ⟨some 29,_,_,_,_,_⟩ rfl (by kernel_rfl) (fun _ _ _ h=>h) (by rfl) (by assumption) ?_
 simp only [Act.put,sA,sB,sC]
 refine tn 25 ⟨some 30,_,_,_,_,_⟩ rfl (by kernel_rfl) (fun _ _ _ h=>h) (by rfl) (by assumption) ?_
 simp only [Act.put,sA,sB,sC]
 refine wpAnyH_ready (rs:=[26]) (by kernel_rfl) (by simp) ?_
 refine AllReadyH.cons (o:=⟨some 31,_,_,_,_,_⟩) rfl (fun K hK=>?_) AllReadyH.nil
 go_simp
 refine hK.out _ _ ?_ (fun hHeld=>?_)
 ·(try dsimp only);(first | assumption | exact s1)
 clear hK K
 try simp only [Act.put,sA,sB,sC]
 refine tn 27 ⟨some 32,_,_,_,_,_⟩ rfl (by kernel_rfl) (fun _ _ _ h=>h) (by rfl) (by assumption) ?_
 simp only [Act.put,sA,sB,sC]
 refine tk 28 ⟨some 33,_,_,_,_,_⟩ ?_ rfl (by kernel_rfl) (fun _ _ _ h=>h) (by rfl) ?_ (by assumption) ?_
 rotate_left
 ·intro w hSw;(try dsimp only at hSw);go_simp;(all_goals with_reducible rfl)
 simp only [Act.put,sA,sB,sC]
 refine wpAnyH_done (by kernel_rfl) ?_ _
 go_wp2_with fail
 go_ret
 exact⟨rfl,hHeld.2.2.2.2.2.2.2.2.2.2.2.2.2.2.2.2⟩
set_option maxRecDepth 100000 in
set_option maxHeartbeats 4000000 in
theorem sUnit_no3 (At:Option Addr) (nt nk ct ck:Nat) (l:List Ter) (m:List Knd) (a b c d e W H:Int) (x r y:Value) (lt lr ld:List Int) (gk ok:Nat) (stp sx tx:Int) (K:Nat) (ax:Int) (w:World) (hB:BrdAt w At (some ⟨gk,ok,none⟩) nt nk l m x r y lt lr ld) (h1:spB 0 1 sx=true) (hk:K<nk) (hcell:w.cell? ⟨gk,ok+K*6+3,none⟩=some (.int .i64 stp)) (h3:spB 0 stp tx=false) :
  Calls Tryz.prog 128 #[bv (.slice At nt ct) (.slice (some ⟨gk,ok,none⟩) nk ck) a b c d e W H x r y,ux sx (K:Int) ax tx] w fun e' w'=>e'=.returned (.bool false)∧Kp w w':=by
 have hbk:=hB.R.bk
 have KA:Kp w ((w.alloc (.cells #[.slice At nt ct,.slice (some ⟨gk,ok,none⟩) nk ck,.int .i64 a,.int .i64 b,.int .i64 c,.int .i64 d,.int .i64 e,.int .i64 W,.int .i64 H,x,r,y] 47)).alloc (.cells #[.int .i64 sx,.int .i64 (K:Int),.int .i64 ax,.int .i64 tx] 152)):=((Kp.refl w).alloc _).alloc _
 have s0:cb12 ((w.alloc (.cells #[.slice At nt ct,.slice (some ⟨gk,ok,none⟩) nk ck,.int .i64 a,.int .i64 b,.int .i64 c,.int .i64 d,.int .i64 e,.int .i64 W,.int .i64 H,x,r,y] 47)).alloc (.cells #[.int .i64 sx,.int .i64 (K:Int),.int .i64 ax,.int .i64 tx] 152)) (w.heap.size) (.slice At nt ct) (.slice (some ⟨gk,ok,none⟩) nk ck) (.int .i64 a) (.int .i64 b) (.int .i64 c) (.int .i64 d) (.int .i64 e) (.int .i64 W) (.int .i64 H) (x) (r) (y) (cb4 ((w.alloc (.cells #[.slice At nt ct,.slice (some ⟨gk,ok,none⟩) nk ck,.int .i64 a,.int .i64 b,.int .i64 c,.int .i64 d,.int .i64 e,.int .i64 W,.int .i64 H,x,r,y] 47)).alloc (.cells #[.int .i64 sx,.int .i64 (K:Int),.int .i64 ax,.int .i64 tx] 152)) (w.heap.size+1) (.int .i64 sx) (.int .i64 (K:Int)) (.int .i64 ax) (.int .i64 tx) (((w.alloc (.cells #[.slice At nt ct,.slice (some ⟨gk,ok,none⟩) nk ck,.int .i64 a,.int .i64 b,.int .i64 c,.int .i64 d,.int .i64 e,.int .i64 W,.int .i64 H,x,r,y] 47)).alloc (.cells #[.int .i64 sx,.int .i64 (K:Int),.int .i64 ax,.int .i64 tx] 152)).cell? ⟨gk,ok+K*6+3,none⟩=some (.int .i64 stp)∧Kp w ((w.alloc (.cells #[.slice At nt ct,.slice (some ⟨gk,ok,none⟩) nk ck,.int .i64 a,.int .i64 b,.int .i64 c,.int .i64 d,.int .i64 e,.int .i64 W,.int .i64 H,x,r,y] 47)).alloc (.cells #[.int .i64 sx,.int .i64 (K:Int),.int .i64 ax,.int .i64 tx] 152)))):=⟨by simp [go_sem],by simp [go_sem],by simp [go_sem],by simp [go_sem],by simp [go_sem],by simp [go_sem],by simp [go_sem],by simp [go_sem],by simp [go_sem],by simp [go_sem],by simp [go_sem],by simp [go_sem],by simp [go_sem],by simp [go_sem],by simp [go_sem],by simp [go_sem],KA.cell hcell,KA⟩
 have CL1:Hid (∀ w,Calls Tryz.prog 63 #[.int .i64 sx,.int .i64 0,.int .i64 1] w fun e w'=>e=.returned (.bool true)∧w=w'):=Lib.hid fun w=>by
  have:=l1In_sp sx 0 1 w
  rw [h1] at this
  exact this
 have h2:inB (K:Int) nk=true:=by simp [inB];omega
 have CL2:Hid (∀ w,Calls Tryz.prog 63 #[.int .i64 (K:Int),.int .i64 0,.int .i64 ((nk:Int) - 1)] w fun e w'=>e=.returned (.bool true)∧w=w'):=Lib.hid fun w=>by
  have:=l1In_lt (K:Int) nk _ w rfl
  rw [h2] at this
  exact this
 have CL3:Hid (∀ w,Calls Tryz.prog 63 #[.int .i64 tx,.int .i64 0,.int .i64 stp] w fun e w'=>e=.returned (.bool false)∧w=w'):=Lib.hid fun w=>by
  have:=l1In_sp tx 0 stp w
  rw [h3] at this
  exact this
 have ewk:IntKind.i64.wrap ((nk:Int) - 1)=(nk:Int) - 1:=IntWalk.i64_in _ (by omega)
 have HB:=Lib.hid hB
 have hkI:(K:Int)<nk:=by omega
 have hkO:((K:Int)).toNat=K:=by omega
 clear h1 h2 h3 KA hB hcell
 go_enter Tryz.func128,Tryz.ntmps128
 go_wp2_with fail
 generalize (w.alloc (.cells #[.slice At nt ct,.slice (some ⟨gk,ok,none⟩) nk ck,.int .i64 a,.int .i64 b,.int .i64 c,.int .i64 d,.int .i64 e,.int .i64 W,.int .i64 H,x,r,y] 47)).alloc (.cells #[.int .i64 sx,.int .i64 (K:Int),.int .i64 ax,.int .i64 tx] 152)=W0 at *
 have s1:=drews17 s0
 refine wp_region_held_drew (S:=(fun w'=>cb12 w' (w.heap.size) (.slice At nt ct) (.slice (some ⟨gk,ok,none⟩) nk ck) (.int .i64 a) (.int .i64 b) (.int .i64 c) (.int .i64 d) (.int .i64 e) (.int .i64 W) (.int .i64 H) (x) (r) (y) (cb4 w' (w.heap.size+1) (.int .i64 sx) (.int .i64 (K:Int)) (.int .i64 ax) (.int .i64 tx) (w'.cell? ⟨gk,ok+K*6+3,none⟩=some (.int .i64 stp)∧Kp w w')))) (by kernel_rfl) ?_ (fun hHeld=>?_)
 ·exact s1
 refine tk 0 ⟨some 5,_,_,_,_,_⟩ ?_ rfl (by kernel_rfl) (fun _ _ _ h=>h) (by rfl) ?_ (by assumption) ?_
 rotate_left
 ·intro w hSw;(try dsimp only at hSw);go_simp;(all_goals with_reducible rfl)
 simp only [Act.put,sA,sB,sC]
 refine tk 1 ⟨some 6,_,_,_,_,_⟩ ?_ rfl (by kernel_rfl) (fun _ _ _ h=>h) (by rfl) ?_ (by assumption) ?_
 rotate_left
 ·intro w hSw;(try dsimp only at hSw);go_simp;(all_goals with_reducible rfl)
 simp only [Act.put,sA,sB,sC]
 refine wpAnyH_ready (rs:=[2]) (by kernel_rfl) (by simp) ?_
 refine AllReadyH.cons (o:=⟨some 7,_,_,_,_,_⟩) rfl (fun K hK=>?_) AllReadyH.nil
 go_simp
 refine(CL1.out _).mono ?_;rintro e1 w1 ⟨rfl,rfl⟩
 go_wp2_with fail
 refine hK.out _ _ ?_ (fun hHeld=>?_)
 ·(try dsimp only);(first | assumption | exact s1)
 clear hK K
 try simp only [Act.put,sA,sB,sC]
 refine tk 3 ⟨some 8,_,_,_,_,_⟩ ?_ rfl (by kernel_rfl) (fun _ _ _ h=>h) (by rfl) ?_ (by assumption) ?_
 rotate_left
 ·intro w hSw;(try dsimp only at hSw);go_simp;(all_goals with_reducible rfl)
 simp only [Act.put,sA,sB,sC]
 refine tk 4 ⟨some 9,_,_,_,_,_⟩ ?_ rfl (by kernel_rfl) (fun _ _ _ h=>h) (by rfl) ?_ (by assumption) ?_
 rotate_left
 ·intro w hSw;(try dsimp only at hSw);go_simp;(all_goals with_reducible rfl)
 simp only [Act.put,sA,sB,sC]
 refine tk 5 ⟨some 10,_,_,_,_,_⟩ ?_ rfl (by kernel_rfl) (fun _ _ _ h=>h) (by rfl) ?_ (by assumption) ?_
 rotate_left
 ·intro w hSw;(try dsimp only at hSw);go_simp;(all_goals with_reducible rfl)
 simp only [Act.put,sA,sB,sC]
 refine tk 6 ⟨some 11,_,_,_,_,_⟩ ?_ rfl (by kernel_rfl) (fun _ _ _ h=>h) (by rfl) ?_ (by assumption) ?_
 rotate_left
 ·intro w hSw;(try dsimp only at hSw);go_simp;(all_goals with_reducible rfl)
 simp only [Act.put,sA,sB,sC]
 refine tk 7 ⟨some 12,_,_,_,_,_⟩ ?_ rfl (by kernel_rfl) (fun _ _ _ h=>h) (by rfl) ?_ (by assumption) ?_
 rotate_left
 ·intro w hSw;(try dsimp only at hSw);go_simp;(all_goals with_reducible rfl)
 simp only [Act.put,sA,sB,sC]
 refine tk 8 ⟨some 13,_,_,_,_,_⟩ ?_ rfl (by kernel_rfl) (fun _ _ _ h=>h) (by rfl) ?_ (by assumption) ?_
 rotate_left
 ·intro w hSw;(try dsimp only at hSw);go_simp;(all_goals with_reducible rfl)
 simp only [Act.put,sA,sB,sC]
 refine tk 9 ⟨some 14,_,_,_,_,_⟩ ?_ rfl (by kernel_rfl) (fun _ _ _ h=>h) (by rfl) ?_ (by assumption) ?_
 rotate_left
 ·intro w hSw;(try dsimp only at hSw);go_simp;(all_goals with_reducible rfl)
 simp only [Act.put,sA,sB,sC]
 refine tk 10 ⟨some 15,_,_,_,_,_⟩ ?_ rfl (by kernel_rfl) (fun _ _ _ h=>h) (by rfl) ?_ (by assumption) ?_
 rotate_left
 ·intro w hSw;(try dsimp only at hSw);go_simp;(all_goals with_reducible rfl)
 simp only [Act.put,sA,sB,sC]
 refine tk 11 ⟨some 16,_,_,_,_,_⟩ ?_ rfl (by kernel_rfl) (fun _ _ _ h=>h) (by rfl) ?_ (by assumption) ?_
 rotate_left
 ·intro w hSw;(try dsimp only at hSw);go_simp;(all_goals with_reducible rfl)
 simp only [Act.put,sA,sB,sC]
 refine wpAnyH_ready (rs:=[12]) (by kernel_rfl) (by simp) ?_
 refine AllReadyH.cons (o:=⟨some 17,_,_,_,_,_⟩) rfl (fun K hK=>?_) AllReadyH.nil
 go_simp
 refine(CL2.out _).mono ?_;rintro e2 w2 ⟨rfl,rfl⟩
 go_wp2_with fail
 refine hK.out _ _ ?_ (fun hHeld=>?_)
 ·(try dsimp only);(first | assumption | exact s1)
 clear hK K
 try simp only [Act.put,sA,sB,sC]
 refine tk 13 ⟨some 18,_,_,_,_,_⟩ ?_ rfl (by kernel_rfl) (fun _ _ _ h=>h) (by rfl) ?_ (by assumption) ?_
 rotate_left
 ·intro w hSw;(try dsimp only at hSw);go_simp;(all_goals with_reducible rfl)
 simp only [Act.put,sA,sB,sC]
 refine tk 14 ⟨some 19,_,_,_,_,_⟩ ?_ rfl (by kernel_rfl) (fun _ _ _ h=>h) (by rfl) ?_ (by assumption) ?_
 rotate_left
 ·intro w hSw;(try dsimp only at hSw);go_simp;(all_goals with_reducible rfl)
 simp only [Act.put,sA,sB,sC]
 refine tk 15 ⟨some 20,_,_,_,_,_⟩ ?_ rfl (by kernel_rfl) (fun _ _ _ h=>h) (by rfl) ?_ (by assumption) ?_
 rotate_left
 ·intro w hSw;(try dsimp only at hSw);go_simp;(all_goals with_reducible rfl)
 simp only [Act.put,sA,sB,sC]
 refine tk 16 ⟨some 21,_,_,_,_,_⟩ ?_ rfl (by kernel_rfl) (fun _ _ _ h=>h) (by rfl) ?_ (by assumption) ?_
 rotate_left
 ·intro w hSw;(try dsimp only at hSw);go_simp;(all_goals with_reducible rfl)
 simp only [Act.put,sA,sB,sC]
 refine tk 17 ⟨some 22,_,_,_,_,_⟩ ?_ rfl (by kernel_rfl) (fun _ _ _ h=>h) (by rfl) ?_ (by assumption) ?_
 rotate_left
 ·intro w hSw;(try dsimp only at hSw);go_simp;(all_goals with_reducible rfl)
 simp only [Act.put,sA,sB,sC]
 refine tk 18 ⟨some 23,_,_,_,_,_⟩ ?_ rfl (by kernel_rfl) (fun _ _ _ h=>h) (by rfl) ?_ (by assumption) ?_
 rotate_left
 ·intro w hSw;(try dsimp only at hSw);go_simp;(all_goals with_reducible rfl)
 simp only [Act.put,sA,sB,sC]
 refine tk 19 ⟨some 24,_,_,_,_,_⟩ ?_ rfl (by kernel_rfl) (fun _ _ _ h=>h) (by rfl) ?_ (by assumption) ?_
 rotate_left
 ·intro w hSw;(try dsimp only at hSw);go_simp;(all_goals with_reducible rfl)
 simp only [Act.put,sA,sB,sC]
 refine tk 20 ⟨some 25,_,_,_,_,_⟩ ?_ rfl (by kernel_rfl) (fun _ _ _ h=>h) (by rfl) ?_ (by assumption) ?_
 rotate_left
 ·intro w hSw;(try dsimp only at hSw);go_simp;(all_goals with_reducible rfl)
 simp only [Act.put,sA,sB,sC]
 refine tk 21 ⟨some 26,_,_,_,_,_⟩ ?_ rfl (by kernel_rfl) (fun _ _ _ h=>h) (by rfl) ?_ (by assumption) ?_
 rotate_left
 ·intro w hSw;(try dsimp only at hSw);go_simp;(all_goals with_reducible rfl)
 simp only [Act.put,sA,sB,sC]
 refine tk 22 ⟨some 27,_,_,_,_,_⟩ ?_ rfl (by kernel_rfl) (fun _ _ _ h=>h) (by rfl) ?_ (by assumption) ?_
 rotate_left
 ·intro w hSw;(try dsimp only at hSw);go_simp;(all_goals with_reducible rfl)
 simp only [Act.put,sA,sB,sC]
 refine tk 23 ⟨some 28,_,_,_,_,_⟩ ?_ rfl (by kernel_rfl) (fun _ _ _ h=>h) (by rfl) ?_ (by assumption) ?_
 rotate_left
 ·intro w hSw;(try dsimp only at hSw);go_simp;(all_goals with_reducible rfl)
 simp only [Act.put,sA,sB,sC]
 refine tk 24 ⟨some 29,_,_,_,_,_⟩ ?_ rfl (by kernel_rfl) (fun _ _ _ h=>h) (by rfl) ?_ (by assumption) ?_
 rotate_left
 ·intro w hSw;(try dsimp only at hSw);go_simp;(all_goals with_reducible rfl)
 simp only [Act.put,sA,sB,sC]
 refine tk 25 ⟨some 30,_,_,_,_,_⟩ ?_ rfl (by kernel_rfl) (fun _ _ _ h=>h) (by rfl) ?_ (by assumption) ?_
 rotate_left
 ·intro w hSw;(try dsimp only at hSw);go_simp;(all_goals with_reducible rfl)
 simp only [Act.put,sA,sB,sC]
 refine wpAnyH_ready (rs:=[26]) (by kernel_rfl) (by simp) ?_
 refine AllReadyH.cons (o:=⟨some 31,_,_,_,_,_⟩) rfl (fun K hK=>?_) AllReadyH.nil
 go_simp
 refine(CL3.out _).mono ?_;rintro e3 w3 ⟨rfl,rfl⟩
 go_wp2_with fail
 refine hK.out _ _ ?_ (fun hHeld=>?_)
 ·(try dsimp only);(first | assumption | exact s1)
 clear hK K
 try simp only [Act.put,sA,sB,sC]
 refine tk 27 ⟨some 32,_,_,_,_,_⟩ ?_ rfl (by kernel_rfl) (fun _ _ _ h=>h) (by rfl) ?_ (by assumption) ?_
 rotate_left
 ·intro w hSw;(try dsimp only at hSw);go_simp;(all_goals with_reducible rfl)
 simp only [Act.put,sA,sB,sC]
 refine tk 28 ⟨some 33,_,_,_,_,_⟩ ?_ rfl (by kernel_rfl) (fun _ _ _ h=>h) (by rfl) ?_ (by assumption) ?_
 rotate_left
 ·intro w hSw;(try dsimp only at hSw);go_simp;(all_goals with_reducible rfl)
 simp only [Act.put,sA,sB,sC]
 refine wpAnyH_done (by kernel_rfl) ?_ _
 go_wp2_with fail
 go_ret
 exact⟨rfl,hHeld.2.2.2.2.2.2.2.2.2.2.2.2.2.2.2.2.2⟩
set_option maxRecDepth 100000 in
set_option maxHeartbeats 4000000 in
theorem sUnit_main (At:Option Addr) (nt nk ct ck:Nat) (l:List Ter) (m:List Knd) (a b c d e W H:Int) (x r y:Value) (lt lr ld:List Int) (gk ok:Nat) (stp sx ax tx:Int) (K:Nat) (w:World) (hB:BrdAt w At (some ⟨gk,ok,none⟩) nt nk l m x r y lt lr ld) (hok:brdOk ⟨l,m,a,b,c,d,e⟩ W H lt lr ld=true) (h1:spB 0 1 sx=true) (hk:K<nk) (hcell:w.cell? ⟨gk,ok+K*6+3,none⟩=some (.int .i64 stp)) (h3:spB 0 stp tx=true) :
  Calls Tryz.prog 128 #[bv (.slice At nt ct) (.slice (some ⟨gk,ok,none⟩) nk ck) a b c d e W H x r y,ux sx (K:Int) ax tx] w fun e' w'=>e'=.returned (.bool (uniR l lt W H K stp ax tx))∧Kp w w':=by
 have hbk:=hB.R.bk
 have HML:=Lib.hid hB.R.rk.1
 have H3:=Lib.hid h3
 have KA:Kp w ((w.alloc (.cells #[.slice At nt ct,.slice (some ⟨gk,ok,none⟩) nk ck,.int .i64 a,.int .i64 b,.int .i64 c,.int .i64 d,.int .i64 e,.int .i64 W,.int .i64 H,x,r,y] 47)).alloc (.cells #[.int .i64 sx,.int .i64 (K:Int),.int .i64 ax,.int .i64 tx] 152)):=((Kp.refl w).alloc _).alloc _
 have s0:cb12 ((w.alloc (.cells #[.slice At nt ct,.slice (some ⟨gk,ok,none⟩) nk ck,.int .i64 a,.int .i64 b,.int .i64 c,.int .i64 d,.int .i64 e,.int .i64 W,.int .i64 H,x,r,y] 47)).alloc (.cells #[.int .i64 sx,.int .i64 (K:Int),.int .i64 ax,.int .i64 tx] 152)) (w.heap.size) (.slice At nt ct) (.slice (some ⟨gk,ok,none⟩) nk ck) (.int .i64 a) (.int .i64 b) (.int .i64 c) (.int .i64 d) (.int .i64 e) (.int .i64 W) (.int .i64 H) (x) (r) (y) (cb4 ((w.alloc (.cells #[.slice At nt ct,.slice (some ⟨gk,ok,none⟩) nk ck,.int .i64 a,.int .i64 b,.int .i64 c,.int .i64 d,.int .i64 e,.int .i64 W,.int .i64 H,x,r,y] 47)).alloc (.cells #[.int .i64 sx,.int .i64 (K:Int),.int .i64 ax,.int .i64 tx] 152)) (w.heap.size+1) (.int .i64 sx) (.int .i64 (K:Int)) (.int .i64 ax) (.int .i64 tx) (((w.alloc (.cells #[.slice At nt ct,.slice (some ⟨gk,ok,none⟩) nk ck,.int .i64 a,.int .i64 b,.int .i64 c,.int .i64 d,.int .i64 e,.int .i64 W,.int .i64 H,x,r,y] 47)).alloc (.cells #[.int .i64 sx,.int .i64 (K:Int),.int .i64 ax,.int .i64 tx] 152)).cell? ⟨gk,ok+K*6+3,none⟩=some (.int .i64 stp)∧Kp w ((w.alloc (.cells #[.slice At nt ct,.slice (some ⟨gk,ok,none⟩) nk ck,.int .i64 a,.int .i64 b,.int .i64 c,.int .i64 d,.int .i64 e,.int .i64 W,.int .i64 H,x,r,y] 47)).alloc (.cells #[.int .i64 sx,.int .i64 (K:Int),.int .i64 ax,.int .i64 tx] 152)))):=⟨by simp [go_sem],by simp [go_sem],by simp [go_sem],by simp [go_sem],by simp [go_sem],by simp [go_sem],by simp [go_sem],by simp [go_sem],by simp [go_sem],by simp [go_sem],by simp [go_sem],by simp [go_sem],by simp [go_sem],by simp [go_sem],by simp [go_sem],by simp [go_sem],KA.cell hcell,KA⟩
 have CL1:Hid (∀ w,Calls Tryz.prog 63 #[.int .i64 sx,.int .i64 0,.int .i64 1] w fun e w'=>e=.returned (.bool true)∧w=w'):=Lib.hid fun w=>by
  have:=l1In_sp sx 0 1 w
  rw [h1] at this
  exact this
 have h2:inB (K:Int) nk=true:=by simp [inB];omega
 have CL2:Hid (∀ w,Calls Tryz.prog 63 #[.int .i64 (K:Int),.int .i64 0,.int .i64 ((nk:Int) - 1)] w fun e w'=>e=.returned (.bool true)∧w=w'):=Lib.hid fun w=>by
  have:=l1In_lt (K:Int) nk _ w rfl
  rw [h2] at this
  exact this
 have CL3:Hid (∀ w,Calls Tryz.prog 63 #[.int .i64 tx,.int .i64 0,.int .i64 stp] w fun e w'=>e=.returned (.bool true)∧w=w'):=Lib.hid fun w=>by
  have:=l1In_sp tx 0 stp w
  rw [h3] at this
  exact this
 have ewk:IntKind.i64.wrap ((nk:Int) - 1)=(nk:Int) - 1:=IntWalk.i64_in _ (by omega)
 have HB:=Lib.hid hB
 have HOK:=Lib.hid hok
 obtain⟨p1,p2,p3,p4⟩:=mapOk_side (brdOk_map hok)
 have hA:=area_bd p1 p2 p3 p4
 have CS:=Lib.hid (fun w=>mSize_any W H x r y w p1 p2 p3 p4)
 have HLN:=Lib.hid (mapOk_len (brdOk_map hok))
 have ewh:IntKind.i64.wrap (W*H - 1)=W*H - 1:=IntWalk.i64_in _ (by omega)
 have hkI:(K:Int)<nk:=by omega
 have hkO:((K:Int)).toNat=K:=by omega
 clear h1 h2 h3 KA hB hcell hok p1 p2 p3 p4
 go_enter Tryz.func128,Tryz.ntmps128
 go_wp2_with fail
 generalize (w.alloc (.cells #[.slice At nt ct,.slice (some ⟨gk,ok,none⟩) nk ck,.int .i64 a,.int .i64 b,.int .i64 c,.int .i64 d,.int .i64 e,.int .i64 W,.int .i64 H,x,r,y] 47)).alloc (.cells #[.int .i64 sx,.int .i64 (K:Int),.int .i64 ax,.int .i64 tx] 152)=W0 at *
 have s1:=drews17 s0
 refine wp_region_held_drew (S:=(fun w'=>cb12 w' (w.heap.size) (.slice At nt ct) (.slice (some ⟨gk,ok,none⟩) nk ck) (.int .i64 a) (.int .i64 b) (.int .i64 c) (.int .i64 d) (.int .i64 e) (.int .i64 W) (.int .i64 H) (x) (r) (y) (cb4 w' (w.heap.size+1) (.int .i64 sx) (.int .i64 (K:Int)) (.int .i64 ax) (.int .i64 tx) (w'.cell? ⟨gk,ok+K*6+3,none⟩=some (.int .i64 stp)∧Kp w w')))) (by kernel_rfl) ?_ (fun hHeld=>?_)
 ·exact s1
 refine tk 0 ⟨some 5,_,_,_,_,_⟩ ?_ rfl (by kernel_rfl) (fun _ _ _ h=>h) (by rfl) ?_ (by assumption) ?_
 rotate_left
 ·intro w hSw;(try dsimp only at hSw);go_simp;(all_goals with_reducible rfl)
 simp only [Act.put,sA,sB,sC]
 refine tk 1 ⟨some 6,_,_,_,_,_⟩ ?_ rfl (by kernel_rfl) (fun _ _ _ h=>h) (by rfl) ?_ (by assumption) ?_
 rotate_left
 ·intro w hSw;(try dsimp only at hSw);go_simp;(all_goals with_reducible rfl)
 simp only [Act.put,sA,sB,sC]
 refine wpAnyH_ready (rs:=[2]) (by kernel_rfl) (by simp) ?_
 refine AllReadyH.cons (o:=⟨some 7,_,_,_,_,_⟩) rfl (fun K hK=>?_) AllReadyH.nil
 go_simp
 refine(CL1.out _).mono ?_;rintro e1 w1 ⟨rfl,rfl⟩
 go_wp2_with fail
 refine hK.out _ _ ?_ (fun hHeld=>?_)
 ·(try dsimp only);(first | assumption | exact s1)
 clear hK K
 try simp only [Act.put,sA,sB,sC]
 refine tk 3 ⟨some 8,_,_,_,_,_⟩ ?_ rfl (by kernel_rfl) (fun _ _ _ h=>h) (by rfl) ?_ (by assumption) ?_
 rotate_left
 ·intro w hSw;(try dsimp only at hSw);go_simp;(all_goals with_reducible rfl)
 simp only [Act.put,sA,sB,sC]
 refine tk 4 ⟨some 9,_,_,_,_,_⟩ ?_ rfl (by kernel_rfl) (fun _ _ _ h=>h) (by rfl) ?_ (by assumption) ?_
 rotate_left
 ·intro w hSw;(try dsimp only at hSw);go_simp;(all_goals with_reducible rfl)
 simp only [Act.put,sA,sB,sC]
 refine tk 5 ⟨some 10,_,_,_,_,_⟩ ?_ rfl (by kernel_rfl) (fun _ _ _ h=>h) (by rfl) ?_ (by assumption) ?_
 rotate_left
 ·intro w hSw;(try dsimp only at hSw);go_simp;(all_goals with_reducible rfl)
 simp only [Act.put,sA,sB,sC]
 refine tk 6 ⟨some 11,_,_,_,_,_⟩ ?_ rfl (by kernel_rfl) (fun _ _ _ h=>h) (by rfl) ?_ (by assumption) ?_
 rotate_left
 ·intro w hSw;(try dsimp only at hSw);go_simp;(all_goals with_reducible rfl)
 simp only [Act.put,sA,sB,sC]
 refine tk 7 ⟨some 12,_,_,_,_,_⟩ ?_ rfl (by kernel_rfl) (fun _ _ _ h=>h) (by rfl) ?_ (by assumption) ?_
 rotate_left
 ·intro w hSw;(try dsimp only at hSw);go_simp;(all_goals with_reducible rfl)
 simp only [Act.put,sA,sB,sC]
 refine tk 8 ⟨some 13,_,_,_,_,_⟩ ?_ rfl (by kernel_rfl) (fun _ _ _ h=>h) (by rfl) ?_ (by assumption) ?_
 rotate_left
 ·intro w hSw;(try dsimp only at hSw);go_simp;(all_goals with_reducible rfl)
 simp only [Act.put,sA,sB,sC]
 refine tk 9 ⟨some 14,_,_,_,_,_⟩ ?_ rfl (by kernel_rfl) (fun _ _ _ h=>h) (by rfl) ?_ (by assumption) ?_
 rotate_left
 ·intro w hSw;(try dsimp only at hSw);go_simp;(all_goals with_reducible rfl)
 simp only [Act.put,sA,sB,sC]
 refine tk 10 ⟨some 15,_,_,_,_,_⟩ ?_ rfl (by kernel_rfl) (fun _ _ _ h=>h) (by rfl) ?_ (by assumption) ?_
 rotate_left
 ·intro w hSw;(try dsimp only at hSw);go_simp;(all_goals with_reducible rfl)
 simp only [Act.put,sA,sB,sC]
 refine tk 11 ⟨some 16,_,_,_,_,_⟩ ?_ rfl (by kernel_rfl) (fun _ _ _ h=>h) (by rfl) ?_ (by assumption) ?_
 rotate_left
 ·intro w hSw;(try dsimp only at hSw);go_simp;(all_goals with_reducible rfl)
 simp only [Act.put,sA,sB,sC]
 refine wpAnyH_ready (rs:=[12]) (by kernel_rfl) (by simp) ?_
 refine AllReadyH.cons (o:=⟨some 17,_,_,_,_,_⟩) rfl (fun K hK=>?_) AllReadyH.nil
 go_simp
 refine(CL2.out _).mono ?_;rintro e2 w2 ⟨rfl,rfl⟩
 go_wp2_with fail
 refine hK.out _ _ ?_ (fun hHeld=>?_)
 ·(try dsimp only);(first | assumption | exact s1)
 clear hK K
 try simp only [Act.put,sA,sB,sC]
 refine tk 13 ⟨some 18,_,_,_,_,_⟩ ?_ rfl (by kernel_rfl) (fun _ _ _ h=>h) (by rfl) ?_ (by assumption) ?_
 rotate_left
 ·intro w hSw;(try dsimp only at hSw);go_simp;(all_goals with_reducible rfl)
 simp only [Act.put,sA,sB,sC]
 refine tk 14 ⟨some 19,_,_,_,_,_⟩ ?_ rfl (by kernel_rfl) (fun _ _ _ h=>h) (by rfl) ?_ (by assumption) ?_
 rotate_left
 ·intro w hSw;(try dsimp only at hSw);go_simp;(all_goals with_reducible rfl)
 simp only [Act.put,sA,sB,sC]
 refine tk 15 ⟨some 20,_,_,_,_,_⟩ ?_ rfl (by kernel_rfl) (fun _ _ _ h=>h) (by rfl) ?_ (by assumption) ?_
 rotate_left
 ·intro w hSw;(try dsimp only at hSw);go_simp;(all_goals with_reducible rfl)
 simp only [Act.put,sA,sB,sC]
 refine tk 16 ⟨some 21,_,_,_,_,_⟩ ?_ rfl (by kernel_rfl) (fun _ _ _ h=>h) (by rfl) ?_ (by assumption) ?_
 rotate_left
 ·intro w hSw;(try dsimp only at hSw);go_simp;(all_goals with_reducible rfl)
 simp only [Act.put,sA,sB,sC]
 refine tk 17 ⟨some 22,_,_,_,_,_⟩ ?_ rfl (by kernel_rfl) (fun _ _ _ h=>h) (by rfl) ?_ (by assumption) ?_
 rotate_left
 ·intro w hSw;(try dsimp only at hSw);go_simp;(all_goals with_reducible rfl)
 simp only [Act.put,sA,sB,sC]
 refine tk 18 ⟨some 23,_,_,_,_,_⟩ ?_ rfl (by kernel_rfl) (fun _ _ _ h=>h) (by rfl) ?_ (by assumption) ?_
 rotate_left
 ·intro w hSw;(try dsimp only at hSw);go_simp;(all_goals with_reducible rfl)
 simp only [Act.put,sA,sB,sC]
 refine tk 19 ⟨some 24,_,_,_,_,_⟩ ?_ rfl (by kernel_rfl) (fun _ _ _ h=>h) (by rfl) ?_ (by assumption) ?_
 rotate_left
 ·intro w hSw;(try dsimp only at hSw);go_simp;(all_goals with_reducible rfl)
 simp only [Act.put,sA,sB,sC]
 refine tk 20 ⟨some 25,_,_,_,_,_⟩ ?_ rfl (by kernel_rfl) (fun _ _ _ h=>h) (by rfl) ?_ (by assumption) ?_
 rotate_left
 ·intro w hSw;(try dsimp only at hSw);go_simp;(all_goals with_reducible rfl)
 simp only [Act.put,sA,sB,sC]
 refine tk 21 ⟨some 26,_,_,_,_,_⟩ ?_ rfl (by kernel_rfl) (fun _ _ _ h=>h) (by rfl) ?_ (by assumption) ?_
 rotate_left
 ·intro w hSw;(try dsimp only at hSw);go_simp;(all_goals with_reducible rfl)
 simp only [Act.put,sA,sB,sC]
 refine tk 22 ⟨some 27,_,_,_,_,_⟩ ?_ rfl (by kernel_rfl) (fun _ _ _ h=>h) (by rfl) ?_ (by assumption) ?_
 rotate_left
 ·intro w hSw;(try dsimp only at hSw);go_simp;(all_goals with_reducible rfl)
 simp only [Act.put,sA,sB,sC]
 refine tk 23 ⟨some 28,_,_,_,_,_⟩ ?_ rfl (by kernel_rfl) (fun _ _ _ h=>h) (by rfl) ?_ (by assumption) ?_
 rotate_left
 ·intro w hSw;(try dsimp only at hSw);go_simp;(all_goals with_reducible rfl)
 simp only [Act.put,sA,sB,sC]
 refine tk 24 ⟨some 29,_,_,_,_,_⟩ ?_ rfl (by kernel_rfl) (fun _ _ _ h=>h) (by rfl) ?_ (by assumption) ?_
 rotate_left
 ·intro w hSw;(try dsimp only at hSw);go_simp;(all_goals with_reducible rfl)
 simp only [Act.put,sA,sB,sC]
 refine tk 25 ⟨some 30,_,_,_,_,_⟩ ?_ rfl (by kernel_rfl) (fun _ _ _ h=>h) (by rfl) ?_ (by assumption) ?_
 rotate_left
 ·intro w hSw;(try dsimp only at hSw);go_simp;(all_goals with_reducible rfl)
 simp only [Act.put,sA,sB,sC]
 refine wpAnyH_ready (rs:=[26]) (by kernel_rfl) (by simp) ?_
 refine AllReadyH.cons (o:=⟨some 31,_,_,_,_,_⟩) rfl (fun K hK=>?_) AllReadyH.nil
 go_simp
 refine(CL3.out _).mono ?_;rintro e3 w3 ⟨rfl,rfl⟩
 go_wp2_with fail
 refine hK.out _ _ ?_ (fun hHeld=>?_)
 ·(try dsimp only);(first | assumption | exact s1)
 clear hK K
 try simp only [Act.put,sA,sB,sC]
 refine tk 27 ⟨some 32,_,_,_,_,_⟩ ?_ rfl (by kernel_rfl) (fun _ _ _ h=>h) (by rfl) ?_ (by assumption) ?_
 rotate_left
 ·intro w hSw;(try dsimp only at hSw);go_simp;(all_goals with_reducible rfl)
 simp only [Act.put,sA,sB,sC]
 refine tk 28 ⟨some 33,_,_,_,_,_⟩ ?_ rfl (by kernel_rfl) (fun _ _ _ h=>h) (by rfl) ?_ (by assumption) ?_
 rotate_left
 ·intro w hSw;(try dsimp only at hSw);go_simp;(all_goals with_reducible rfl)
 simp only [Act.put,sA,sB,sC]
 refine wpAnyH_done (by kernel_rfl) ?_ _
 go_wp2_with fail
 by_cases ha:ax=-1
 ·subst ha
  have HR:Hid (uniR l lt W H K stp (-1) tx=true):=Lib.hid (by
   unfold uniR
   rw [H3.out]
   rfl)
  have s2:=drews17 hHeld
  clear hHeld s0 s1
  refine wp_region_held_drew (S:=(fun w'=>cb12 w' (w.heap.size) (.slice At nt ct) (.slice (some ⟨gk,ok,none⟩) nk ck) (.int .i64 a) (.int .i64 b) (.int .i64 c) (.int .i64 d) (.int .i64 e) (.int .i64 W) (.int .i64 H) (x) (r) (y) (cb4 w' (w.heap.size+1) (.int .i64 sx) (.int .i64 (K:Int)) (.int .i64 (-1)) (.int .i64 tx) (w'.cell? ⟨gk,ok+K*6+3,none⟩=some (.int .i64 stp)∧Kp w w')))) (by kernel_rfl) ?_ (fun hHeld=>?_)
  ·exact s2
  refine tk 0 ⟨some 34,_,_,_,_,_⟩ ?_ rfl (by kernel_rfl) (fun _ _ _ h=>h) (by rfl) ?_ (by assumption) ?_
  rotate_left
  ·intro w hSw;(try dsimp only at hSw);go_simp;(all_goals with_reducible rfl)
  simp only [Act.put,sA,sB,sC]
  refine tk 1 ⟨some 35,_,_,_,_,_⟩ ?_ rfl (by kernel_rfl) (fun _ _ _ h=>h) (by rfl) ?_ (by assumption) ?_
  rotate_left
  ·intro w hSw;(try dsimp only at hSw);go_simp;(all_goals with_reducible rfl)
  simp only [Act.put,sA,sB,sC]
  refine tk 2 ⟨some 36,_,_,_,_,_⟩ ?_ rfl (by kernel_rfl) (fun _ _ _ h=>h) (by rfl) ?_ (by assumption) ?_
  rotate_left
  ·intro w hSw;(try dsimp only at hSw);go_simp;(all_goals with_reducible rfl)
  simp only [Act.put,sA,sB,sC]
  refine tk 3 ⟨some 37,_,_,_,_,_⟩ ?_ rfl (by kernel_rfl) (fun _ _ _ h=>h) (by rfl) ?_ (by assumption) ?_
  rotate_left
  ·intro w hSw;(try dsimp only at hSw);go_simp;(all_goals with_reducible rfl)
  simp only [Act.put,sA,sB,sC]
  refine tn 4 ⟨some 38,_,_,_,_,_⟩ rfl (by kernel_rfl) (fun _ _ _ h=>h) (by rfl) (by assumption) ?_
  simp only [Act.put,sA,sB,sC]
  refine tn 5 ⟨some 39,_,_,_,_,_⟩ rfl (by kernel_rfl) (fun _ _ _ h=>h) (by rfl) (by assumption) ?_
  simp only [Act.put,sA,sB,sC]
  refine tn 6 ⟨some 40,_,_,_,_,_⟩ rfl (by kernel_rfl) (fun _ _ _ h=>h) (by rfl) (by assumption) ?_
  simp only [Act.put,sA,sB,sC]
  refine tn 7 ⟨some 41,_,_,_,_,_⟩ rfl (by kernel_rfl) (fun _ _ _ h=>h) (by rfl) (by assumption) ?_
  simp only [Act.put,sA,sB,sC]
  refine tn 8 ⟨some 42,_,_,_,_,_⟩ rfl (by kernel_rfl) (fun _ _ _ h=>h) (by rfl) (by assumption) ?_
  simp only [Act.put,sA,sB,sC]
  refine tn 9 ⟨some 43,_,_,_,_,_⟩ rfl (by kernel_rfl) (fun _ _ _ h=>h) (by rfl) (by assumption) ?_
  simp only [Act.put,sA,sB,sC]
  refine tn 10 ⟨some 44,_,_,_,_,_⟩ rfl (by kernel_rfl) (fun _ _ _ h=>h) (by rfl) (by assumption) ?_
  simp only [Act.put,sA,sB,sC]
  refine tn 11 ⟨some 45,_,_,_,_,_⟩ rfl (by kernel_rfl) (fun _ _ _ h=>h) (by rfl) (by assumption) ?_
  simp only [Act.put,sA,sB,sC]
  refine wpAnyH_ready (rs:=[12]) (by kernel_rfl) (by simp) ?_
  refine AllReadyH.cons (o:=⟨some 46,_,_,_,_,_⟩) rfl (fun K hK=>?_) AllReadyH.nil
  go_simp
  refine hK.out _ _ ?_ (fun hHeld=>?_)
  ·(try dsimp only);(first | assumption | exact s4 | exact s3 | exact s2)
  clear hK K
  try simp only [Act.put,sA,sB,sC]
  refine tn 13 ⟨some 47,_,_,_,_,_⟩ rfl (by kernel_rfl) (fun _ _ _ h=>h) (by rfl) (by assumption) ?_
  simp only [Act.put,sA,sB,sC]
  refine wpAnyH_ready (rs:=[14]) (by kernel_rfl) (by simp) ?_
  refine AllReadyH.cons (o:=⟨some 48,_,_,_,_,_⟩) rfl (fun K hK=>?_) AllReadyH.nil
  go_simp
  refine hK.out _ _ ?_ (fun hHeld=>?_)
  ·(try dsimp only);(first | assumption | exact s4 | exact s3 | exact s2)
  clear hK K
  try simp only [Act.put,sA,sB,sC]
  refine tn 15 ⟨some 49,_,_,_,_,_⟩ rfl (by kernel_rfl) (fun _ _ _ h=>h) (by rfl) (by assumption) ?_
  simp only [Act.put,sA,sB,sC]
  refine tn 16 ⟨some 50,_,_,_,_,_⟩ rfl (by kernel_rfl) (fun _ _ _ h=>h) (by rfl) (by assumption) ?_
  simp only [Act.put,sA,sB,sC]
  refine tn 17 ⟨some 51,_,_,_,_,_⟩ rfl (by kernel_rfl) (fun _ _ _ h=>h) (by rfl) (by assumption) ?_
  simp only [Act.put,sA,sB,sC]
  refine tn 18 ⟨some 52,_,_,_,_,_⟩ rfl (by kernel_rfl) (fun _ _ _ h=>h) (by rfl) (by assumption) ?_
  simp only [Act.put,sA,sB,sC]
  refine tn 19 ⟨some 53,_,_,_,_,_⟩ rfl (by kernel_rfl) (fun _ _ _ h=>h) (by rfl) (by assumption) ?_
  simp only [Act.put,sA,sB,sC]
  refine tn 20 ⟨some 54,_,_,_,_,_⟩ rfl (by kernel_rfl) (fun _ _ _ h=>h) (by rfl) (by assumption) ?_
  simp only [Act.put,sA,sB,sC]
  refine tn 21 ⟨some 55,_,_,_,_,_⟩ rfl (by kernel_rfl) (fun _ _ _ h=>h) (by rfl) (by assumption) ?_
  simp only [Act.put,sA,sB,sC]
  refine wpAnyH_ready (rs:=[22]) (by kernel_rfl) (by simp) ?_
  refine AllReadyH.cons (o:=⟨some 56,_,_,_,_,_⟩) rfl (fun K hK=>?_) AllReadyH.nil
  go_simp
  refine hK.out _ _ ?_ (fun hHeld=>?_)
  ·(try dsimp only);(first | assumption | exact s4 | exact s3 | exact s2)
  clear hK K
  try simp only [Act.put,sA,sB,sC]
  refine tn 23 ⟨some 57,_,_,_,_,_⟩ rfl (by kernel_rfl) (fun _ _ _ h=>h) (by rfl) (by assumption) ?_
  simp only [Act.put,sA,sB,sC]
  refine tn 24 ⟨some 58,_,_,_,_,_⟩ rfl (by kernel_rfl) (fun _ _ _ h=>h) (by rfl) (by assumption) ?_
  simp only [Act.put,sA,sB,sC]
  refine tk 25 ⟨some 59,_,_,_,_,_⟩ ?_ rfl (by kernel_rfl) (fun _ _ _ h=>h) (by rfl) ?_ (by assumption) ?_
  rotate_left
  ·intro w hSw;(try dsimp only at hSw);go_simp;(all_goals with_reducible rfl)
  simp only [Act.put,sA,sB,sC]
  refine tk 26 ⟨some 4,_,_,_,_,_⟩ ?_ rfl (by kernel_rfl) (fun _ _ _ h=>h) (by rfl) ?_ (by assumption) ?_
  rotate_left
  ·intro w hSw;(try dsimp only at hSw);go_simp;(all_goals with_reducible rfl)
  simp only [Act.put,sA,sB,sC]
  refine wpAnyH_done (by kernel_rfl) ?_ _
  go_wp2_with fail
  go_ret
  exact⟨ret_bool HR.out.symm,hHeld.2.2.2.2.2.2.2.2.2.2.2.2.2.2.2.2.2⟩
 have da:decide (ax=-1)=false:=by simpa using ha
 have hd:(ax == -1)=false:=by simpa using ha
 by_cases h4:tx≤0
 ·have h4':decide (0<tx)=false:=by simpa using h4
  have HR:Hid (uniR l lt W H K stp ax tx=false):=Lib.hid (by
   unfold uniR
   rw [h4',da,Bool.false_and,Bool.false_and,Bool.or_false,Bool.and_false])
  clear da
  have s2:=drews17 hHeld
  clear hHeld s0 s1
  refine wp_region_held_drew (S:=(fun w'=>cb12 w' (w.heap.size) (.slice At nt ct) (.slice (some ⟨gk,ok,none⟩) nk ck) (.int .i64 a) (.int .i64 b) (.int .i64 c) (.int .i64 d) (.int .i64 e) (.int .i64 W) (.int .i64 H) (x) (r) (y) (cb4 w' (w.heap.size+1) (.int .i64 sx) (.int .i64 (K:Int)) (.int .i64 ax) (.int .i64 tx) (w'.cell? ⟨gk,ok+K*6+3,none⟩=some (.int .i64 stp)∧Kp w w')))) (by kernel_rfl) ?_ (fun hHeld=>?_)
  ·exact s2
  refine tk 0 ⟨some 34,_,_,_,_,_⟩ ?_ rfl (by kernel_rfl) (fun _ _ _ h=>h) (by rfl) ?_ (by assumption) ?_
  rotate_left
  ·intro w hSw;(try dsimp only at hSw);go_simp;(all_goals with_reducible rfl)
  simp only [Act.put,sA,sB,sC]
  refine tk 1 ⟨some 35,_,_,_,_,_⟩ ?_ rfl (by kernel_rfl) (fun _ _ _ h=>h) (by rfl) ?_ (by assumption) ?_
  rotate_left
  ·intro w hSw;(try dsimp only at hSw);go_simp;(all_goals with_reducible rfl)
  simp only [Act.put,sA,sB,sC]
  refine tk 2 ⟨some 36,_,_,_,_,_⟩ ?_ rfl (by kernel_rfl) (fun _ _ _ h=>h) (by rfl) ?_ (by assumption) ?_
  rotate_left
  ·intro w hSw;(try dsimp only at hSw);go_simp;(all_goals with_reducible rfl)
  simp only [Act.put,sA,sB,sC]
  refine tk 3 ⟨some 37,_,_,_,_,_⟩ ?_ rfl (by kernel_rfl) (fun _ _ _ h=>h) (by rfl) ?_ (by assumption) ?_
  rotate_left
  ·intro w hSw;(try dsimp only at hSw);go_simp;(all_goals with_reducible rfl)
  simp only [Act.put,sA,sB,sC]
  refine tk 4 ⟨some 38,_,_,_,_,_⟩ ?_ rfl (by kernel_rfl) (fun _ _ _ h=>h) (by rfl) ?_ (by assumption) ?_
  rotate_left
  ·intro w hSw;(try dsimp only at hSw);go_simp;(all_goals with_reducible rfl)
  simp only [Act.put,sA,sB,sC]
  refine tk 5 ⟨some 39,_,_,_,_,_⟩ ?_ rfl (by kernel_rfl) (fun _ _ _ h=>h) (by rfl) ?_ (by assumption) ?_
  rotate_left
  ·intro w hSw;(try dsimp only at hSw);go_simp;(all_goals with_reducible rfl)
  simp only [Act.put,sA,sB,sC]
  refine tk 6 ⟨some 40,_,_,_,_,_⟩ ?_ rfl (by kernel_rfl) (fun _ _ _ h=>h) (by rfl) ?_ (by assumption) ?_
  rotate_left
  ·intro w hSw;(try dsimp only at hSw);go_simp;(all_goals with_reducible rfl)
  simp only [Act.put,sA,sB,sC]
  refine tk 7 ⟨some 41,_,_,_,_,_⟩ ?_ rfl (by kernel_rfl) (fun _ _ _ h=>h) (by rfl) ?_ (by assumption) ?_
  rotate_left
  ·intro w hSw;(try dsimp only at hSw);go_simp;(all_goals with_reducible rfl)
  simp only [Act.put,sA,sB,sC]
  refine tn 8 ⟨some 42,_,_,_,_,_⟩ rfl (by kernel_rfl) (fun _ _ _ h=>h) (by rfl) (by assumption) ?_
  simp only [Act.put,sA,sB,sC]
  refine tn 9 ⟨some 43,_,_,_,_,_⟩ rfl (by kernel_rfl) (fun _ _ _ h=>h) (by rfl) (by assumption) ?_
  simp only [Act.put,sA,sB,sC]
  refine tn 10 ⟨some 44,_,_,_,_,_⟩ rfl (by kernel_rfl) (fun _ _ _ h=>h) (by rfl) (by assumption) ?_
  simp only [Act.put,sA,sB,sC]
  refine tn 11 ⟨some 45,_,_,_,_,_⟩ rfl (by kernel_rfl) (fun _ _ _ h=>h) (by rfl) (by assumption) ?_
  simp only [Act.put,sA,sB,sC]
  refine wpAnyH_ready (rs:=[12]) (by kernel_rfl) (by simp) ?_
  refine AllReadyH.cons (o:=⟨some 46,_,_,_,_,_⟩) rfl (fun K hK=>?_) AllReadyH.nil
  go_simp
  refine hK.out _ _ ?_ (fun hHeld=>?_)
  ·(try dsimp only);(first | assumption | exact s4 | exact s3 | exact s2)
  clear hK K
  try simp only [Act.put,sA,sB,sC]
  refine tn 13 ⟨some 47,_,_,_,_,_⟩ rfl (by kernel_rfl) (fun _ _ _ h=>h) (by rfl) (by assumption) ?_
  simp only [Act.put,sA,sB,sC]
  refine wpAnyH_ready (rs:=[14]) (by kernel_rfl) (by simp) ?_
  refine AllReadyH.cons (o:=⟨some 48,_,_,_,_,_⟩) rfl (fun K hK=>?_) AllReadyH.nil
  go_simp
  refine hK.out _ _ ?_ (fun hHeld=>?_)
  ·(try dsimp only);(first | assumption | exact s4 | exact s3 | exact s2)
  clear hK K
  try simp only [Act.put,sA,sB,sC]
  refine tk 15 ⟨some 49,_,_,_,_,_⟩ ?_ rfl (by kernel_rfl) (fun _ _ _ h=>h) (by rfl) ?_ (by assumption) ?_
  rotate_left
  ·intro w hSw;(try dsimp only at hSw);go_simp;(all_goals with_reducible rfl)
  simp only [Act.put,sA,sB,sC]
  refine tk 16 ⟨some 50,_,_,_,_,_⟩ ?_ rfl (by kernel_rfl) (fun _ _ _ h=>h) (by rfl) ?_ (by assumption) ?_
  rotate_left
  ·intro w hSw;(try dsimp only at hSw);go_simp;(all_goals with_reducible rfl)
  simp only [Act.put,sA,sB,sC]
  refine tn 17 ⟨some 51,_,_,_,_,_⟩ rfl (by kernel_rfl) (fun _ _ _ h=>h) (by rfl) (by assumption) ?_
  simp only [Act.put,sA,sB,sC]
  refine tn 18 ⟨some 52,_,_,_,_,_⟩ rfl (by kernel_rfl) (fun _ _ _ h=>h) (by rfl) (by assumption) ?_
  simp only [Act.put,sA,sB,sC]
  refine tn 19 ⟨some 53,_,_,_,_,_⟩ rfl (by kernel_rfl) (fun _ _ _ h=>h) (by rfl) (by assumption) ?_
  simp only [Act.put,sA,sB,sC]
  refine tn 20 ⟨some 54,_,_,_,_,_⟩ rfl (by kernel_rfl) (fun _ _ _ h=>h) (by rfl) (by assumption) ?_
  simp only [Act.put,sA,sB,sC]
  refine tn 21 ⟨some 55,_,_,_,_,_⟩ rfl (by kernel_rfl) (fun _ _ _ h=>h) (by rfl) (by assumption) ?_
  simp only [Act.put,sA,sB,sC]
  refine wpAnyH_ready (rs:=[22]) (by kernel_rfl) (by simp) ?_
  refine AllReadyH.cons (o:=⟨some 56,_,_,_,_,_⟩) rfl (fun K hK=>?_) AllReadyH.nil
  go_simp
  refine hK.out _ _ ?_ (fun hHeld=>?_)
  ·(try dsimp only);(first | assumption | exact s4 | exact s3 | exact s2)
  clear hK K
  try simp only [Act.put,sA,sB,sC]
  refine tn 23 ⟨some 57,_,_,_,_,_⟩ rfl (by kernel_rfl) (fun _ _ _ h=>h) (by rfl) (by assumption) ?_
  simp only [Act.put,sA,sB,sC]
  refine tk 24 ⟨some 58,_,_,_,_,_⟩ ?_ rfl (by kernel_rfl) (fun _ _ _ h=>h) (by rfl) ?_ (by assumption) ?_
  rotate_left
  ·intro w hSw;(try dsimp only at hSw);go_simp;(all_goals with_reducible rfl)
  simp only [Act.put,sA,sB,sC]
  refine tk 25 ⟨some 59,_,_,_,_,_⟩ ?_ rfl (by kernel_rfl) (fun _ _ _ h=>h) (by rfl) ?_ (by assumption) ?_
  rotate_left
  ·intro w hSw;(try dsimp only at hSw);go_simp;(all_goals with_reducible rfl)
  simp only [Act.put,sA,sB,sC]
  refine tk 26 ⟨some 4,_,_,_,_,_⟩ ?_ rfl (by kernel_rfl) (fun _ _ _ h=>h) (by rfl) ?_ (by assumption) ?_
  rotate_left
  ·intro w hSw;(try dsimp only at hSw);go_simp;(all_goals with_reducible rfl)
  simp only [Act.put,sA,sB,sC]
  refine wpAnyH_done (by kernel_rfl) ?_ _
  go_wp2_with fail
  go_ret
  exact⟨ret_bool HR.out.symm,hHeld.2.2.2.2.2.2.2.2.2.2.2.2.2.2.2.2.2⟩
 have h4':decide (0<tx)=true:=by simpa using h4
 cases hon:onI W H ax
 ·have HR:Hid (uniR l lt W H K stp ax tx=false):=Lib.hid (by
   unfold uniR
   rw [hon,da,Bool.and_false,Bool.false_and,Bool.or_false,Bool.and_false])
  have CL4:Hid (∀ w,Calls Tryz.prog 63 #[.int .i64 ax,.int .i64 0,.int .i64 (W*H - 1)] w fun e w'=>e=.returned (.bool false)∧w=w'):=Lib.hid fun w=>by
   have:=(show Calls Tryz.prog 63 #[.int .i64 ax,.int .i64 0,.int .i64 (W*H - 1)] w (fun e w'=>e=.returned (.bool (onI W H ax))∧w=w') from l1In_lt ax (W*H) _ w rfl)
   rw [hon] at this
   exact this
  clear da hon
  have s2:=drews17 hHeld
  clear hHeld s0 s1
  refine wp_region_held_drew (S:=(fun w'=>cb12 w' (w.heap.size) (.slice At nt ct) (.slice (some ⟨gk,ok,none⟩) nk ck) (.int .i64 a) (.int .i64 b) (.int .i64 c) (.int .i64 d) (.int .i64 e) (.int .i64 W) (.int .i64 H) (x) (r) (y) (cb4 w' (w.heap.size+1) (.int .i64 sx) (.int .i64 (K:Int)) (.int .i64 ax) (.int .i64 tx) (w'.cell? ⟨gk,ok+K*6+3,none⟩=some (.int .i64 stp)∧Kp w w')))) (by kernel_rfl) ?_ (fun hHeld=>?_)
  ·exact s2
  refine tk 0 ⟨some 34,_,_,_,_,_⟩ ?_ rfl (by kernel_rfl) (fun _ _ _ h=>h) (by rfl) ?_ (by assumption) ?_
  rotate_left
  ·intro w hSw;(try dsimp only at hSw);go_simp;(all_goals with_reducible rfl)
  simp only [Act.put,sA,sB,sC]
  refine tk 1 ⟨some 35,_,_,_,_,_⟩ ?_ rfl (by kernel_rfl) (fun _ _ _ h=>h) (by rfl) ?_ (by assumption) ?_
  rotate_left
  ·intro w hSw;(try dsimp only at hSw);go_simp;(all_goals with_reducible rfl)
  simp only [Act.put,sA,sB,sC]
  refine tk 2 ⟨some 36,_,_,_,_,_⟩ ?_ rfl (by kernel_rfl) (fun _ _ _ h=>h) (by rfl) ?_ (by assumption) ?_
  rotate_left
  ·intro w hSw;(try dsimp only at hSw);go_simp;(all_goals with_reducible rfl)
  simp only [Act.put,sA,sB,sC]
  refine tk 3 ⟨some 37,_,_,_,_,_⟩ ?_ rfl (by kernel_rfl) (fun _ _ _ h=>h) (by rfl) ?_ (by assumption) ?_
  rotate_left
  ·intro w hSw;(try dsimp only at hSw);go_simp;(all_goals with_reducible rfl)
  simp only [Act.put,sA,sB,sC]
  refine tk 4 ⟨some 38,_,_,_,_,_⟩ ?_ rfl (by kernel_rfl) (fun _ _ _ h=>h) (by rfl) ?_ (by assumption) ?_
  rotate_left
  ·intro w hSw;(try dsimp only at hSw);go_simp;(all_goals with_reducible rfl)
  simp only [Act.put,sA,sB,sC]
  refine tk 5 ⟨some 39,_,_,_,_,_⟩ ?_ rfl (by kernel_rfl) (fun _ _ _ h=>h) (by rfl) ?_ (by assumption) ?_
  rotate_left
  ·intro w hSw;(try dsimp only at hSw);go_simp;(all_goals with_reducible rfl)
  simp only [Act.put,sA,sB,sC]
  refine tk 6 ⟨some 40,_,_,_,_,_⟩ ?_ rfl (by kernel_rfl) (fun _ _ _ h=>h) (by rfl) ?_ (by assumption) ?_
  rotate_left
  ·intro w hSw;(try dsimp only at hSw);go_simp;(all_goals with_reducible rfl)
  simp only [Act.put,sA,sB,sC]
  refine tk 7 ⟨some 41,_,_,_,_,_⟩ ?_ rfl (by kernel_rfl) (fun _ _ _ h=>h) (by rfl) ?_ (by assumption) ?_
  rotate_left
  ·intro w hSw;(try dsimp only at hSw);go_simp;(all_goals with_reducible rfl)
  simp only [Act.put,sA,sB,sC]
  refine tk 8 ⟨some 42,_,_,_,_,_⟩ ?_ rfl (by kernel_rfl) (fun _ _ _ h=>h) (by rfl) ?_ (by assumption) ?_
  rotate_left
  ·intro w hSw;(try dsimp only at hSw);go_simp;(all_goals with_reducible rfl)
  simp only [Act.put,sA,sB,sC]
  refine tk 9 ⟨some 43,_,_,_,_,_⟩ ?_ rfl (by kernel_rfl) (fun _ _ _ h=>h) (by rfl) ?_ (by assumption) ?_
  rotate_left
  ·intro w hSw;(try dsimp only at hSw);go_simp;(all_goals with_reducible rfl)
  simp only [Act.put,sA,sB,sC]
  refine tk 10 ⟨some 44,_,_,_,_,_⟩ ?_ rfl (by kernel_rfl) (fun _ _ _ h=>h) (by rfl) ?_ (by assumption) ?_
  rotate_left
  ·intro w hSw;(try dsimp only at hSw);go_simp;(all_goals with_reducible rfl)
  simp only [Act.put,sA,sB,sC]
  refine tk 11 ⟨some 45,_,_,_,_,_⟩ ?_ rfl (by kernel_rfl) (fun _ _ _ h=>h) (by rfl) ?_ (by assumption) ?_
  rotate_left
  ·intro w hSw;(try dsimp only at hSw);go_simp;(all_goals with_reducible rfl)
  simp only [Act.put,sA,sB,sC]
  refine wpAnyH_ready (rs:=[12]) (by kernel_rfl) (by simp) ?_
  refine AllReadyH.cons (o:=⟨some 46,_,_,_,_,_⟩) rfl (fun K hK=>?_) AllReadyH.nil
  go_simp
  refine(CS.out _).mono ?_;rintro e5 w5 ⟨rfl,k5⟩;have s3:=keeps17 k5 (by assumption)
  go_wp2_with fail
  refine hK.out _ _ ?_ (fun hHeld=>?_)
  ·(try dsimp only);(first | assumption | exact s4 | exact s3 | exact s2)
  clear hK K
  try simp only [Act.put,sA,sB,sC]
  refine tk 13 ⟨some 47,_,_,_,_,_⟩ ?_ rfl (by kernel_rfl) (fun _ _ _ h=>h) (by rfl) ?_ (by assumption) ?_
  rotate_left
  ·intro w hSw;(try dsimp only at hSw);go_simp;(all_goals with_reducible rfl)
  simp only [Act.put,sA,sB,sC]
  refine wpAnyH_ready (rs:=[14]) (by kernel_rfl) (by simp) ?_
  refine AllReadyH.cons (o:=⟨some 48,_,_,_,_,_⟩) rfl (fun K hK=>?_) AllReadyH.nil
  go_simp
  refine(CL4.out _).mono ?_;rintro e4 w4 ⟨rfl,rfl⟩
  go_wp2_with fail
  refine hK.out _ _ ?_ (fun hHeld=>?_)
  ·(try dsimp only);(first | assumption | exact s4 | exact s3 | exact s2)
  clear hK K
  try simp only [Act.put,sA,sB,sC]
  refine tk 15 ⟨some 49,_,_,_,_,_⟩ ?_ rfl (by kernel_rfl) (fun _ _ _ h=>h) (by rfl) ?_ (by assumption) ?_
  rotate_left
  ·intro w hSw;(try dsimp only at hSw);go_simp;(all_goals with_reducible rfl)
  simp only [Act.put,sA,sB,sC]
  refine tk 16 ⟨some 50,_,_,_,_,_⟩ ?_ rfl (by kernel_rfl) (fun _ _ _ h=>h) (by rfl) ?_ (by assumption) ?_
  rotate_left
  ·intro w hSw;(try dsimp only at hSw);go_simp;(all_goals with_reducible rfl)
  simp only [Act.put,sA,sB,sC]
  refine tn 17 ⟨some 51,_,_,_,_,_⟩ rfl (by kernel_rfl) (fun _ _ _ h=>h) (by rfl) (by assumption) ?_
  simp only [Act.put,sA,sB,sC]
  refine tn 18 ⟨some 52,_,_,_,_,_⟩ rfl (by kernel_rfl) (fun _ _ _ h=>h) (by rfl) (by assumption) ?_
  simp only [Act.put,sA,sB,sC]
  refine tn 19 ⟨some 53,_,_,_,_,_⟩ rfl (by kernel_rfl) (fun _ _ _ h=>h) (by rfl) (by assumption) ?_
  simp only [Act.put,sA,sB,sC]
  refine tn 20 ⟨some 54,_,_,_,_,_⟩ rfl (by kernel_rfl) (fun _ _ _ h=>h) (by rfl) (by assumption) ?_
  simp only [Act.put,sA,sB,sC]
  refine tn 21 ⟨some 55,_,_,_,_,_⟩ rfl (by kernel_rfl) (fun _ _ _ h=>h) (by rfl) (by assumption) ?_
  simp only [Act.put,sA,sB,sC]
  refine wpAnyH_ready (rs:=[22]) (by kernel_rfl) (by simp) ?_
  refine AllReadyH.cons (o:=⟨some 56,_,_,_,_,_⟩) rfl (fun K hK=>?_) AllReadyH.nil
  go_simp
  refine hK.out _ _ ?_ (fun hHeld=>?_)
  ·(try dsimp only);(first | assumption | exact s4 | exact s3 | exact s2)
  clear hK K
  try simp only [Act.put,sA,sB,sC]
  refine tn 23 ⟨some 57,_,_,_,_,_⟩ rfl (by kernel_rfl) (fun _ _ _ h=>h) (by rfl) (by assumption) ?_
  simp only [Act.put,sA,sB,sC]
  refine tk 24 ⟨some 58,_,_,_,_,_⟩ ?_ rfl (by kernel_rfl) (fun _ _ _ h=>h) (by rfl) ?_ (by assumption) ?_
  rotate_left
  ·intro w hSw;(try dsimp only at hSw);go_simp;(all_goals with_reducible rfl)
  simp only [Act.put,sA,sB,sC]
  refine tk 25 ⟨some 59,_,_,_,_,_⟩ ?_ rfl (by kernel_rfl) (fun _ _ _ h=>h) (by rfl) ?_ (by assumption) ?_
  rotate_left
  ·intro w hSw;(try dsimp only at hSw);go_simp;(all_goals with_reducible rfl)
  simp only [Act.put,sA,sB,sC]
  refine tk 26 ⟨some 4,_,_,_,_,_⟩ ?_ rfl (by kernel_rfl) (fun _ _ _ h=>h) (by rfl) ?_ (by assumption) ?_
  rotate_left
  ·intro w hSw;(try dsimp only at hSw);go_simp;(all_goals with_reducible rfl)
  simp only [Act.put,sA,sB,sC]
  refine wpAnyH_done (by kernel_rfl) ?_ _
  go_wp2_with fail
  go_ret
  exact⟨ret_bool HR.out.symm,hHeld.2.2.2.2.2.2.2.2.2.2.2.2.2.2.2.2.2⟩
 obtain⟨I,rfl,hI⟩:=onI_at hon HLN.out
 have CB:Hid (∀ w,BrdAt w At (some ⟨gk,ok,none⟩) nt nk l m x r y lt lr ld→Calls Tryz.prog 180 #[bv (.slice At nt ct) (.slice (some ⟨gk,ok,none⟩) nk ck) a b c d e W H x r y,.int .i64 (K:Int),.int .i64 (I:Int)] w fun e' w'=>e'=.returned (.int .i64 (costB l lt K I))∧Kp w w'):=Lib.hid fun w h=>bCost_any At (some ⟨gk,ok,none⟩) nt nk ct ck l m a b c d e W H x r y lt lr ld K I w h HOK.out (by have:=HML.out;omega) hI
 have HR:Hid (uniR l lt W H K stp (I:Int) tx=decide (0<costB l lt K I)):=Lib.hid (by
  unfold uniR
  rw [H3.out,da,h4',hon,Int.toNat_natCast,Bool.true_and,Bool.false_or,Bool.and_self,Bool.true_and])
 have CL4:Hid (∀ w,Calls Tryz.prog 63 #[.int .i64 (I:Int),.int .i64 0,.int .i64 (W*H - 1)] w fun e w'=>e=.returned (.bool true)∧w=w'):=Lib.hid fun w=>by
  have:=(show Calls Tryz.prog 63 #[.int .i64 (I:Int),.int .i64 0,.int .i64 (W*H - 1)] w (fun e w'=>e=.returned (.bool (onI W H (I:Int)))∧w=w') from l1In_lt (I:Int) (W*H) _ w rfl)
  rw [hon] at this
  exact this
 clear da hon
 have s2:=drews17 hHeld
 clear hHeld s0 s1
 refine wp_region_held_drew (S:=(fun w'=>cb12 w' (w.heap.size) (.slice At nt ct) (.slice (some ⟨gk,ok,none⟩) nk ck) (.int .i64 a) (.int .i64 b) (.int .i64 c) (.int .i64 d) (.int .i64 e) (.int .i64 W) (.int .i64 H) (x) (r) (y) (cb4 w' (w.heap.size+1) (.int .i64 sx) (.int .i64 (K:Int)) (.int .i64 (I:Int)) (.int .i64 tx) (w'.cell? ⟨gk,ok+K*6+3,none⟩=some (.int .i64 stp)∧Kp w w')))) (by kernel_rfl) ?_ (fun hHeld=>?_)
 ·exact s2
 refine tk 0 ⟨some 34,_,_,_,_,_⟩ ?_ rfl (by kernel_rfl) (fun _ _ _ h=>h) (by rfl) ?_ (by assumption) ?_
 rotate_left
 ·intro w hSw;(try dsimp only at hSw);go_simp;(all_goals with_reducible rfl)
 simp only [Act.put,sA,sB,sC]
 refine tk 1 ⟨some 35,_,_,_,_,_⟩ ?_ rfl (by kernel_rfl) (fun _ _ _ h=>h) (by rfl) ?_ (by assumption) ?_
 rotate_left
 ·intro w hSw;(try dsimp only at hSw);go_simp;(all_goals with_reducible rfl)
 simp only [Act.put,sA,sB,sC]
 refine tk 2 ⟨some 36,_,_,_,_,_⟩ ?_ rfl (by kernel_rfl) (fun _ _ _ h=>h) (by rfl) ?_ (by assumption) ?_
 rotate_left
 ·intro w hSw;(try dsimp only at hSw);go_simp;(all_goals with_reducible rfl)
 simp only [Act.put,sA,sB,sC]
 refine tk 3 ⟨some 37,_,_,_,_,_⟩ ?_ rfl (by kernel_rfl) (fun _ _ _ h=>h) (by rfl) ?_ (by assumption) ?_
 rotate_left
 ·intro w hSw;(try dsimp only at hSw);go_simp;(all_goals with_reducible rfl)
 simp only [Act.put,sA,sB,sC]
 refine tk 4 ⟨some 38,_,_,_,_,_⟩ ?_ rfl (by kernel_rfl) (fun _ _ _ h=>h) (by rfl) ?_ (by assumption) ?_
 rotate_left
 ·intro w hSw;(try dsimp only at hSw);go_simp;(all_goals with_reducible rfl)
 simp only [Act.put,sA,sB,sC]
 refine tk 5 ⟨some 39,_,_,_,_,_⟩ ?_ rfl (by kernel_rfl) (fun _ _ _ h=>h) (by rfl) ?_ (by assumption) ?_
 rotate_left
 ·intro w hSw;(try dsimp only at hSw);go_simp;(all_goals with_reducible rfl)
 simp only [Act.put,sA,sB,sC]
 refine tk 6 ⟨some 40,_,_,_,_,_⟩ ?_ rfl (by kernel_rfl) (fun _ _ _ h=>h) (by rfl) ?_ (by assumption) ?_
 rotate_left
 ·intro w hSw;(try dsimp only at hSw);go_simp;(all_goals with_reducible rfl)
 simp only [Act.put,sA,sB,sC]
 refine tk 7 ⟨some 41,_,_,_,_,_⟩ ?_ rfl (by kernel_rfl) (fun _ _ _ h=>h) (by rfl) ?_ (by assumption) ?_
 rotate_left
 ·intro w hSw;(try dsimp only at hSw);go_simp;(all_goals with_reducible rfl)
 simp only [Act.put,sA,sB,sC]
 refine tk 8 ⟨some 42,_,_,_,_,_⟩ ?_ rfl (by kernel_rfl) (fun _ _ _ h=>h) (by rfl) ?_ (by assumption) ?_
 rotate_left
 ·intro w hSw;(try dsimp only at hSw);go_simp;(all_goals with_reducible rfl)
 simp only [Act.put,sA,sB,sC]
 refine tk 9 ⟨some 43,_,_,_,_,_⟩ ?_ rfl (by kernel_rfl) (fun _ _ _ h=>h) (by rfl) ?_ (by assumption) ?_
 rotate_left
 ·intro w hSw;(try dsimp only at hSw);go_simp;(all_goals with_reducible rfl)
 simp only [Act.put,sA,sB,sC]
 refine tk 10 ⟨some 44,_,_,_,_,_⟩ ?_ rfl (by kernel_rfl) (fun _ _ _ h=>h) (by rfl) ?_ (by assumption) ?_
 rotate_left
 ·intro w hSw;(try dsimp only at hSw);go_simp;(all_goals with_reducible rfl)
 simp only [Act.put,sA,sB,sC]
 refine tk 11 ⟨some 45,_,_,_,_,_⟩ ?_ rfl (by kernel_rfl) (fun _ _ _ h=>h) (by rfl) ?_ (by assumption) ?_
 rotate_left
 ·intro w hSw;(try dsimp only at hSw);go_simp;(all_goals with_reducible rfl)
 simp only [Act.put,sA,sB,sC]
 refine wpAnyH_ready (rs:=[12]) (by kernel_rfl) (by simp) ?_
 refine AllReadyH.cons (o:=⟨some 46,_,_,_,_,_⟩) rfl (fun K hK=>?_) AllReadyH.nil
 go_simp
 refine(CS.out _).mono ?_;rintro e5 w5 ⟨rfl,k5⟩;have s3:=keeps17 k5 (by assumption)
 go_wp2_with fail
 refine hK.out _ _ ?_ (fun hHeld=>?_)
 ·(try dsimp only);(first | assumption | exact s4 | exact s3 | exact s2)
 clear hK K
 try simp only [Act.put,sA,sB,sC]
 refine tk 13 ⟨some 47,_,_,_,_,_⟩ ?_ rfl (by kernel_rfl) (fun _ _ _ h=>h) (by rfl) ?_ (by assumption) ?_
 rotate_left
 ·intro w hSw;(try dsimp only at hSw);go_simp;(all_goals with_reducible rfl)
 simp only [Act.put,sA,sB,sC]
 refine wpAnyH_ready (rs:=[14]) (by kernel_rfl) (by simp) ?_
 refine AllReadyH.cons (o:=⟨some 48,_,_,_,_,_⟩) rfl (fun K hK=>?_) AllReadyH.nil
 go_simp
 refine(CL4.out _).mono ?_;rintro e4 w4 ⟨rfl,rfl⟩
 go_wp2_with fail
 refine hK.out _ _ ?_ (fun hHeld=>?_)
 ·(try dsimp only);(first | assumption | exact s4 | exact s3 | exact s2)
 clear hK K
 try simp only [Act.put,sA,sB,sC]
 refine tk 15 ⟨some 49,_,_,_,_,_⟩ ?_ rfl (by kernel_rfl) (fun _ _ _ h=>h) (by rfl) ?_ (by assumption) ?_
 rotate_left
 ·intro w hSw;(try dsimp only at hSw);go_simp;(all_goals with_reducible rfl)
 simp only [Act.put,sA,sB,sC]
 refine tk 16 ⟨some 50,_,_,_,_,_⟩ ?_ rfl (by kernel_rfl) (fun _ _ _ h=>h) (by rfl) ?_ (by assumption) ?_
 rotate_left
 ·intro w hSw;(try dsimp only at hSw);go_simp;(all_goals with_reducible rfl)
 simp only [Act.put,sA,sB,sC]
 refine tk 17 ⟨some 51,_,_,_,_,_⟩ ?_ rfl (by kernel_rfl) (fun _ _ _ h=>h) (by rfl) ?_ (by assumption) ?_
 rotate_left
 ·intro w hSw;(try dsimp only at hSw);go_simp;(all_goals with_reducible rfl)
 simp only [Act.put,sA,sB,sC]
 refine tk 18 ⟨some 52,_,_,_,_,_⟩ ?_ rfl (by kernel_rfl) (fun _ _ _ h=>h) (by rfl) ?_ (by assumption) ?_
 rotate_left
 ·intro w hSw;(try dsimp only at hSw);go_simp;(all_goals with_reducible rfl)
 simp only [Act.put,sA,sB,sC]
 refine tk 19 ⟨some 53,_,_,_,_,_⟩ ?_ rfl (by kernel_rfl) (fun _ _ _ h=>h) (by rfl) ?_ (by assumption) ?_
 rotate_left
 ·intro w hSw;(try dsimp only at hSw);go_simp;(all_goals with_reducible rfl)
 simp only [Act.put,sA,sB,sC]
 refine tk 20 ⟨some 54,_,_,_,_,_⟩ ?_ rfl (by kernel_rfl) (fun _ _ _ h=>h) (by rfl) ?_ (by assumption) ?_
 rotate_left
 ·intro w hSw;(try dsimp only at hSw);go_simp;(all_goals with_reducible rfl)
 simp only [Act.put,sA,sB,sC]
 refine tk 21 ⟨some 55,_,_,_,_,_⟩ ?_ rfl (by kernel_rfl) (fun _ _ _ h=>h) (by rfl) ?_ (by assumption) ?_
 rotate_left
 ·intro w hSw;(try dsimp only at hSw);go_simp;(all_goals with_reducible rfl)
 simp only [Act.put,sA,sB,sC]
 refine wpAnyH_ready (rs:=[22]) (by kernel_rfl) (by simp) ?_
 refine AllReadyH.cons (o:=⟨some 56,_,_,_,_,_⟩) rfl (fun K hK=>?_) AllReadyH.nil
 go_simp
 refine(CB.out _ (HB.out.keep hHeld.2.2.2.2.2.2.2.2.2.2.2.2.2.2.2.2.2)).mono ?_;rintro e6 w6 ⟨rfl,k6⟩;have s4:=keeps17 k6 hHeld
 go_wp2_with fail
 refine hK.out _ _ ?_ (fun hHeld=>?_)
 ·(try dsimp only);(first | assumption | exact s4 | exact s3 | exact s2)
 clear hK K
 try simp only [Act.put,sA,sB,sC]
 refine tk 23 ⟨some 57,_,_,_,_,_⟩ ?_ rfl (by kernel_rfl) (fun _ _ _ h=>h) (by rfl) ?_ (by assumption) ?_
 rotate_left
 ·intro w hSw;(try dsimp only at hSw);go_simp;(all_goals with_reducible rfl)
 simp only [Act.put,sA,sB,sC]
 refine tk 24 ⟨some 58,_,_,_,_,_⟩ ?_ rfl (by kernel_rfl) (fun _ _ _ h=>h) (by rfl) ?_ (by assumption) ?_
 rotate_left
 ·intro w hSw;(try dsimp only at hSw);go_simp;(all_goals with_reducible rfl)
 simp only [Act.put,sA,sB,sC]
 refine tk 25 ⟨some 59,_,_,_,_,_⟩ ?_ rfl (by kernel_rfl) (fun _ _ _ h=>h) (by rfl) ?_ (by assumption) ?_
 rotate_left
 ·intro w hSw;(try dsimp only at hSw);go_simp;(all_goals with_reducible rfl)
 simp only [Act.put,sA,sB,sC]
 refine tk 26 ⟨some 4,_,_,_,_,_⟩ ?_ rfl (by kernel_rfl) (fun _ _ _ h=>h) (by rfl) ?_ (by assumption) ?_
 rotate_left
 ·intro w hSw;(try dsimp only at hSw);go_simp;(all_goals with_reducible rfl)
 simp only [Act.put,sA,sB,sC]
 refine wpAnyH_done (by kernel_rfl) ?_ _
 go_wp2_with fail
 go_ret
 exact⟨ret_bool (by rw [HR.out]),hHeld.2.2.2.2.2.2.2.2.2.2.2.2.2.2.2.2.2⟩
end Go.Proofs.YtacgknllagdkoaaGreatDoor
