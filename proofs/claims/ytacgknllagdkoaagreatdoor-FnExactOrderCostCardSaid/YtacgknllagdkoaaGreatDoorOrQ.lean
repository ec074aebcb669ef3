/-
  OrderFault, EndOf, OrderCost of the reference. Nothing that was there is changed.
-/
import Derived.Test.YtacgknllagdkoaaGreatDoorOrT
import Derived.Test.YtacgknllagdkoaaGreatDoorOrA
import Derived.StillTailTactics
import Derived.Deep.Cut
import Derived.Maps.AppendAt
import Derived.Test.YtacgknllagdkoaaGreatDoorQa
import Derived.Test.YtacgknllagdkoaaGreatDoorQa
namespace Go.Proofs.YtacgknllagdkoaaGreatDoor
open Go.RowKit
theorem keepq18 {W0 w w1:World} {p0 p1 p2 p3 p4 p5 p6 p7 p8 p9 p10 p11 p12 p13 p14 p15 p16 p17:Addr} {v0 v1 v2 v3 v4 v5 v6 v7 v8 v9 v10 v11 v12 v13 v14 v15 v16 v17:Value} (k:Kp w w1) (h:w.cell? p0=some v0∧w.cell? p1=some v1∧w.cell? p2=some v2∧w.cell? p3=some v3∧w.cell? p4=some v4∧w.cell? p5=some v5∧w.cell? p6=some v6∧w.cell? p7=some v7∧w.cell? p8=some v8∧w.cell? p9=some v9∧w.cell? p10=some v10∧w.cell? p11=some v11∧w.cell? p12=some v12∧w.cell? p13=some v13∧w.cell? p14=some v14∧w.cell? p15=some v15∧w.cell? p16=some v16∧w.cell? p17=some v17∧Kp W0 w):w1.cell? p0=some v0∧w1.cell? p1=some v1∧w1.cell? p2=some v2∧w1.cell? p3=some v3∧w1.cell? p4=some v4∧w1.cell? p5=some v5∧w1.cell? p6=some v6∧w1.cell? p7=some v7∧w1.cell? p8=some v8∧w1.cell? p9=some v9∧w1.cell? p10=some v10∧w1.cell? p11=some v11∧w1.cell? p12=some v12∧w1.cell? p13=some v13∧w1.cell? p14=some v14∧w1.cell? p15=some v15∧w1.cell? p16=some v16∧w1.cell? p17=some v17∧Kp W0 w1 :=
  ⟨k.cell h.1,k.cell h.2.1,k.cell h.2.2.1,k.cell h.2.2.2.1,k.cell h.2.2.2.2.1,k.cell h.2.2.2.2.2.1,k.cell h.2.2.2.2.2.2.1,k.cell h.2.2.2.2.2.2.2.1,k.cell h.2.2.2.2.2.2.2.2.1,k.cell h.2.2.2.2.2.2.2.2.2.1,k.cell h.2.2.2.2.2.2.2.2.2.2.1,k.cell h.2.2.2.2.2.2.2.2.2.2.2.1,k.cell h.2.2.2.2.2.2.2.2.2.2.2.2.1,k.cell h.2.2.2.2.2.2.2.2.2.2.2.2.2.1,k.cell h.2.2.2.2.2.2.2.2.2.2.2.2.2.2.1,k.cell h.2.2.2.2.2.2.2.2.2.2.2.2.2.2.2.1,k.cell h.2.2.2.2.2.2.2.2.2.2.2.2.2.2.2.2.1,k.cell h.2.2.2.2.2.2.2.2.2.2.2.2.2.2.2.2.2.1,h.2.2.2.2.2.2.2.2.2.2.2.2.2.2.2.2.2.2.trans k⟩
theorem drewq18 {W0 w:World} {p0 p1 p2 p3 p4 p5 p6 p7 p8 p9 p10 p11 p12 p13 p14 p15 p16 p17:Addr} {v0 v1 v2 v3 v4 v5 v6 v7 v8 v9 v10 v11 v12 v13 v14 v15 v16 v17:Value} (h:w.cell? p0=some v0∧w.cell? p1=some v1∧w.cell? p2=some v2∧w.cell? p3=some v3∧w.cell? p4=some v4∧w.cell? p5=some v5∧w.cell? p6=some v6∧w.cell? p7=some v7∧w.cell? p8=some v8∧w.cell? p9=some v9∧w.cell? p10=some v10∧w.cell? p11=some v11∧w.cell? p12=some v12∧w.cell? p13=some v13∧w.cell? p14=some v14∧w.cell? p15=some v15∧w.cell? p16=some v16∧w.cell? p17=some v17∧Kp W0 w):w.drew.cell? p0=some v0∧w.drew.cell? p1=some v1∧w.drew.cell? p2=some v2∧w.drew.cell? p3=some v3∧w.drew.cell? p4=some v4∧w.drew.cell? p5=some v5∧w.drew.cell? p6=some v6∧w.drew.cell? p7=some v7∧w.drew.cell? p8=some v8∧w.drew.cell? p9=some v9∧w.drew.cell? p10=some v10∧w.drew.cell? p11=some v11∧w.drew.cell? p12=some v12∧w.drew.cell? p13=some v13∧w.drew.cell? p14=some v14∧w.drew.cell? p15=some v15∧w.drew.cell? p16=some v16∧w.drew.cell? p17=some v17∧Kp W0 w.drew :=
  ⟨h.1,h.2.1,h.2.2.1,h.2.2.2.1,h.2.2.2.2.1,h.2.2.2.2.2.1,h.2.2.2.2.2.2.1,h.2.2.2.2.2.2.2.1,h.2.2.2.2.2.2.2.2.1,h.2.2.2.2.2.2.2.2.2.1,h.2.2.2.2.2.2.2.2.2.2.1,h.2.2.2.2.2.2.2.2.2.2.2.1,h.2.2.2.2.2.2.2.2.2.2.2.2.1,h.2.2.2.2.2.2.2.2.2.2.2.2.2.1,h.2.2.2.2.2.2.2.2.2.2.2.2.2.2.1,h.2.2.2.2.2.2.2.2.2.2.2.2.2.2.2.1,h.2.2.2.2.2.2.2.2.2.2.2.2.2.2.2.2.1,h.2.2.2.2.2.2.2.2.2.2.2.2.2.2.2.2.2.1,h.2.2.2.2.2.2.2.2.2.2.2.2.2.2.2.2.2.2.drew⟩
theorem keepq22 {W0 w w1:World} {p0 p1 p2 p3 p4 p5 p6 p7 p8 p9 p10 p11 p12 p13 p14 p15 p16 p17 p18 p19 p20 p21:Addr} {v0 v1 v2 v3 v4 v5 v6 v7 v8 v9 v10 v11 v12 v13 v14 v15 v16 v17 v18 v19 v20 v21:Value} (k:Kp w w1) (h:w.cell? p0=some v0∧w.cell? p1=some v1∧w.cell? p2=some v2∧w.cell? p3=some v3∧w.cell? p4=some v4∧w.cell? p5=some v5∧w.cell? p6=some v6∧w.cell? p7=some v7∧w.cell? p8=some v8∧w.cell? p9=some v9∧w.cell? p10=some v10∧w.cell? p11=some v11∧w.cell? p12=some v12∧w.cell? p13=some v13∧w.cell? p14=some v14∧w.cell? p15=some v15∧w.cell? p16=some v16∧w.cell? p17=some v17∧w.cell? p18=some v18∧w.cell? p19=some v19∧w.cell? p20=some v20∧w.cell? p21=some v21∧Kp W0 w):w1.cell? p0=some v0∧w1.cell? p1=some v1∧w1.cell? p2=some v2∧w1.cell? p3=some v3∧w1.cell? p4=some v4∧w1.cell? p5=some v5∧w1.cell? p6=some v6∧w1.cell? p7=some v7∧w1.cell? p8=some v8∧w1.cell? p9=some v9∧w1.cell? p10=some v10∧w1.cell? p11=some v11∧w1.cell? p12=some v12∧w1.cell? p13=some v13∧w1.cell? p14=some v14∧w1.cell? p15=some v15∧w1.cell? p16=some v16∧w1.cell? p17=some v17∧w1.cell? p18=some v18∧w1.cell? p19=some v19∧w1.cell? p20=some v20∧w1.cell? p21=some v21∧Kp W0 w1 :=
  ⟨k.cell h.1,k.cell h.2.1,k.cell h.2.2.1,k.cell h.2.2.2.1,k.cell h.2.2.2.2.1,k.cell h.2.2.2.2.2.1,k.cell h.2.2.2.2.2.2.1,k.cell h.2.2.2.2.2.2.2.1,k.cell h.2.2.2.2.2.2.2.2.1,k.cell h.2.2.2.2.2.2.2.2.2.1,k.cell h.2.2.2.2.2.2.2.2.2.2.1,k.cell h.2.2.2.2.2.2.2.2.2.2.2.1,k.cell h.2.2.2.2.2.2.2.2.2.2.2.2.1,k.cell h.2.2.2.2.2.2.2.2.2.2.2.2.2.1,k.cell h.2.2.2.2.2.2.2.2.2.2.2.2.2.2.1,k.cell h.2.2.2.2.2.2.2.2.2.2.2.2.2.2.2.1,k.cell h.2.2.2.2.2.2.2.2.2.2.2.2.2.2.2.2.1,k.cell h.2.2.2.2.2.2.2.2.2.2.2.2.2.2.2.2.2.1,k.cell h.2.2.2.2.2.2.2.2.2.2.2.2.2.2.2.2.2.2.1,k.cell h.2.2.2.2.2.2.2.2.2.2.2.2.2.2.2.2.2.2.2.1,k.cell h.2.2.2.2.2.2.2.2.2.2.2.2.2.2.2.2.2.2.2.2.1,k.cell h.2.2.2.2.2.2.2.2.2.2.2.2.2.2.2.2.2.2.2.2.2.1,h.2.2.2.2.2.2.2.2.2.2.2.2.2.2.2.2.2.2.2.2.2.2.trans k⟩
theorem drewq22 {W0 w:World} {p0 p1 p2 p3 p4 p5 p6 p7 p8 p9 p10 p11 p12 p13 p14 p15 p16 p17 p18 p19 p20 p21:Addr} {v0 v1 v2 v3 v4 v5 v6 v7 v8 v9 v10 v11 v12 v13 v14 v15 v16 v17 v18 v19 v20 v21:Value} (h:w.cell? p0=some v0∧w.cell? p1=some v1∧w.cell? p2=some v2∧w.cell? p3=some v3∧w.cell? p4=some v4∧w.cell? p5=some v5∧w.cell? p6=some v6∧w.cell? p7=some v7∧w.cell? p8=some v8∧w.cell? p9=some v9∧w.cell? p10=some v10∧w.cell? p11=some v11∧w.cell? p12=some v12∧w.cell? p13=some v13∧w.cell? p14=some v14∧w.cell? p15=some v15∧w.cell? p16=some v16∧w.cell? p17=some v17∧w.cell? p18=some v18∧w.cell? p19=some v19∧w.cell? p20=some v20∧w.cell? p21=some v21∧Kp W0 w):w.drew.cell? p0=some v0∧w.drew.cell? p1=some v1∧w.drew.cell? p2=some v2∧w.drew.cell? p3=some v3∧w.drew.cell? p4=some v4∧w.drew.cell? p5=some v5∧w.drew.cell? p6=some v6∧w.drew.cell? p7=some v7∧w.drew.cell? p8=some v8∧w.drew.cell? p9=some v9∧w.drew.cell? p10=some v10∧w.drew.cell? p11=some v11∧w.drew.cell? p12=some v12∧w.drew.cell? p13=some v13∧w.drew.cell? p14=some v14∧w.drew.cell? p15=some v15∧w.drew.cell? p16=some v16∧w.drew.cell? p17=some v17∧w.drew.cell? p18=some v18∧w.drew.cell? p19=some v19∧w.drew.cell? p20=some v20∧w.drew.cell? p21=some v21∧Kp W0 w.drew :=
  ⟨h.1,h.2.1,h.2.2.1,h.2.2.2.1,h.2.2.2.2.1,h.2.2.2.2.2.1,h.2.2.2.2.2.2.1,h.2.2.2.2.2.2.2.1,h.2.2.2.2.2.2.2.2.1,h.2.2.2.2.2.2.2.2.2.1,h.2.2.2.2.2.2.2.2.2.2.1,h.2.2.2.2.2.2.2.2.2.2.2.1,h.2.2.2.2.2.2.2.2.2.2.2.2.1,h.2.2.2.2.2.2.2.2.2.2.2.2.2.1,h.2.2.2.2.2.2.2.2.2.2.2.2.2.2.1,h.2.2.2.2.2.2.2.2.2.2.2.2.2.2.2.1,h.2.2.2.2.2.2.2.2.2.2.2.2.2.2.2.2.1,h.2.2.2.2.2.2.2.2.2.2.2.2.2.2.2.2.2.1,h.2.2.2.2.2.2.2.2.2.2.2.2.2.2.2.2.2.2.1,h.2.2.2.2.2.2.2.2.2.2.2.2.2.2.2.2.2.2.2.1,h.2.2.2.2.2.2.2.2.2.2.2.2.2.2.2.2.2.2.2.2.1,h.2.2.2.2.2.2.2.2.2.2.2.2.2.2.2.2.2.2.2.2.2.1,h.2.2.2.2.2.2.2.2.2.2.2.2.2.2.2.2.2.2.2.2.2.2.drew⟩
set_option maxRecDepth 100000 in
set_option maxHeartbeats 4000000 in
theorem oRight_no (At Ak:Option Addr) (nt nk ct ck:Nat) (l:List Ter) (m:List Knd) (a b c d e W H:Int) (x r y:Value) (lt lr ld:List Int) (T Z:Int) (u:Value) (us:List Uni) (un at':Int) (v:Value) (_p:List Int) (w:World) (hB:BrdAt w At Ak nt nk l m x r y lt lr ld) (hS:StaAt w u us) (hg:((brdOk ⟨l,m,a,b,c,d,e⟩ W H lt lr ld && staOk ⟨l,m,a,b,c,d,e⟩ W H lt T Z us) && inB un us.length)=false) :
    Calls Tryz.prog 85 #[bv (.slice At nt ct) (.slice Ak nk ck) a b c d e W H x r y,sv T Z u,ov un v at'] w fun e' w'=>e'=.returned (.bool false)∧Kp w w':=by
  have KA:Kp w (((w.alloc (.cells #[.slice At nt ct,.slice Ak nk ck,.int .i64 a,.int .i64 b,.int .i64 c,.int .i64 d,.int .i64 e,.int .i64 W,.int .i64 H,x,r,y] 47)).alloc (.cells #[.int .i64 T,.int .i64 Z,u] 51)).alloc (.cells #[.int .i64 un,v,.int .i64 at'] 53)):=((((Kp.refl w).alloc _).alloc _).alloc _)
  have s0:cb12 (((w.alloc (.cells #[.slice At nt ct,.slice Ak nk ck,.int .i64 a,.int .i64 b,.int .i64 c,.int .i64 d,.int .i64 e,.int .i64 W,.int .i64 H,x,r,y] 47)).alloc (.cells #[.int .i64 T,.int .i64 Z,u] 51)).alloc (.cells #[.int .i64 un,v,.int .i64 at'] 53)) (w.heap.size) (.slice At nt ct) (.slice Ak nk ck) (.int .i64 a) (.int .i64 b) (.int .i64 c) (.int .i64 d) (.int .i64 e) (.int .i64 W) (.int .i64 H) (x) (r) (y) (cb3 (((w.alloc (.cells #[.slice At nt ct,.slice Ak nk ck,.int .i64 a,.int .i64 b,.int .i64 c,.int .i64 d,.int .i64 e,.int .i64 W,.int .i64 H,x,r,y] 47)).alloc (.cells #[.int .i64 T,.int .i64 Z,u] 51)).alloc (.cells #[.int .i64 un,v,.int .i64 at'] 53)) (w.heap.size + 1) (.int .i64 T) (.int .i64 Z) (u) (cb3 (((w.alloc (.cells #[.slice At nt ct,.slice Ak nk ck,.int .i64 a,.int .i64 b,.int .i64 c,.int .i64 d,.int .i64 e,.int .i64 W,.int .i64 H,x,r,y] 47)).alloc (.cells #[.int .i64 T,.int .i64 Z,u] 51)).alloc (.cells #[.int .i64 un,v,.int .i64 at'] 53)) (w.heap.size + 1 + 1) (.int .i64 un) (v) (.int .i64 at') (Kp w (((w.alloc (.cells #[.slice At nt ct,.slice Ak nk ck,.int .i64 a,.int .i64 b,.int .i64 c,.int .i64 d,.int .i64 e,.int .i64 W,.int .i64 H,x,r,y] 47)).alloc (.cells #[.int .i64 T,.int .i64 Z,u] 51)).alloc (.cells #[.int .i64 un,v,.int .i64 at'] 53))))):=⟨by simp [go_sem],by simp [go_sem],by simp [go_sem],by simp [go_sem],by simp [go_sem],by simp [go_sem],by simp [go_sem],by simp [go_sem],by simp [go_sem],by simp [go_sem],by simp [go_sem],by simp [go_sem],by simp [go_sem],by simp [go_sem],by simp [go_sem],by simp [go_sem],by simp [go_sem],by simp [go_sem],KA⟩
  have HB:=Lib.hid hB
  have HS:=Lib.hid hS
  have CH:=Lib.hid (fun (w:World) hB hS=>sHas_any At Ak nt nk ct ck l m a b c d e W H x r y lt lr ld T Z u us un w hB hS)
  rw [hg] at CH
  clear hB hS hg
  go_enter Tryz.func85,Tryz.ntmps85
  go_upto_region 1 with (fail)
  have s1:=drewq18 s0
  clear s0
  refine wp_region_held_drew (S:=(fun w'=>cb12 w' (w.heap.size) (.slice At nt ct) (.slice Ak nk ck) (.int .i64 a) (.int .i64 b) (.int .i64 c) (.int .i64 d) (.int .i64 e) (.int .i64 W) (.int .i64 H) (x) (r) (y) (cb3 w' (w.heap.size + 1) (.int .i64 T) (.int .i64 Z) (u) (cb3 w' (w.heap.size + 1 + 1) (.int .i64 un) (v) (.int .i64 at') (Kp w w'))))) (by kernel_rfl) ?_ (fun hHeld=>?_)
  · exact s1
  refine tk 0 ⟨some 7,_,_,_,_,_⟩ ?_ rfl (by kernel_rfl) (fun _ _ _ h=>h) (by rfl) ?_ (by assumption) ?_
  rotate_left
  · intro w hSw;(try dsimp only at hSw);go_simp;(all_goals with_reducible rfl)
  simp only [Act.put,sA,sB,sC]
  refine tk 1 ⟨some 8,_,_,_,_,_⟩ ?_ rfl (by kernel_rfl) (fun _ _ _ h=>h) (by rfl) ?_ (by assumption) ?_
  rotate_left
  · intro w hSw;(try dsimp only at hSw);go_simp;(all_goals with_reducible rfl)
  simp only [Act.put,sA,sB,sC]
  refine tk 2 ⟨some 9,_,_,_,_,_⟩ ?_ rfl (by kernel_rfl) (fun _ _ _ h=>h) (by rfl) ?_ (by assumption) ?_
  rotate_left
  · intro w hSw;(try dsimp only at hSw);go_simp;(all_goals with_reducible rfl)
  simp only [Act.put,sA,sB,sC]
  refine tk 3 ⟨some 10,_,_,_,_,_⟩ ?_ rfl (by kernel_rfl) (fun _ _ _ h=>h) (by rfl) ?_ (by assumption) ?_
  rotate_left
  · intro w hSw;(try dsimp only at hSw);go_simp;(all_goals with_reducible rfl)
  simp only [Act.put,sA,sB,sC]
  refine wpAnyH_ready (rs:=[4]) (by kernel_rfl) (by simp) ?_
  refine AllReadyH.cons (o:=⟨some 11,_,_,_,_,_⟩) rfl (fun K hK=>?_) AllReadyH.nil
  go_simp
  refine (CH.out _ (HB.out.keep hHeld.2.2.2.2.2.2.2.2.2.2.2.2.2.2.2.2.2.2) (HS.out.keep hHeld.2.2.2.2.2.2.2.2.2.2.2.2.2.2.2.2.2.2)).mono ?_;rintro e1 w1 ⟨rfl,k1⟩;have s2:=keepq18 k1 hHeld
  go_wp2_with fail
  refine hK.out _ _ ?_ (fun hHeld=>?_)
  · (try dsimp only);(first | assumption | exact s2 | exact s1)
  clear hK K
  try simp only [Act.put,sA,sB,sC]
  refine tk 5 ⟨some 12,_,_,_,_,_⟩ ?_ rfl (by kernel_rfl) (fun _ _ _ h=>h) (by rfl) ?_ (by assumption) ?_
  rotate_left
  · intro w hSw;(try dsimp only at hSw);go_simp;(all_goals with_reducible rfl)
  simp only [Act.put,sA,sB,sC]
  refine tn 6 ⟨some 13,_,_,_,_,_⟩ rfl (by kernel_rfl) (fun _ _ _ h=>h) (by rfl) (by assumption) ?_
  simp only [Act.put,sA,sB,sC]
  refine tn 7 ⟨some 14,_,_,_,_,_⟩ rfl (by kernel_rfl) (fun _ _ _ h=>h) (by rfl) (by assumption) ?_
  simp only [Act.put,sA,sB,sC]
  refine tn 8 ⟨some 15,_,_,_,_,_⟩ rfl (by kernel_rfl) (fun _ _ _ h=>h) (by rfl) (by assumption) ?_
  simp only [Act.put,sA,sB,sC]
  refine tn 9 ⟨some 16,_,_,_,_,_⟩ rfl (by kernel_rfl) (fun _ _ _ h=>h) (by rfl) (by assumption) ?_
  simp only [Act.put,sA,sB,sC]
  refine tn 10 ⟨some 17,_,_,_,_,_⟩ rfl (by kernel_rfl) (fun _ _ _ h=>h) (by rfl) (by assumption) ?_
  simp only [Act.put,sA,sB,sC]
  refine tn 11 ⟨some 18,_,_,_,_,_⟩ rfl (by kernel_rfl) (fun _ _ _ h=>h) (by rfl) (by assumption) ?_
  simp only [Act.put,sA,sB,sC]
  refine tn 12 ⟨some 19,_,_,_,_,_⟩ rfl (by kernel_rfl) (fun _ _ _ h=>h) (by rfl) (by assumption) ?_
  simp only [Act.put,sA,sB,sC]
  refine tn 13 ⟨some 20,_,_,_,_,_⟩ rfl (by kernel_rfl) (fun _ _ _ h=>h) (by rfl) (by assumption) ?_
  simp only [Act.put,sA,sB,sC]
  refine tn 14 ⟨some 21,_,_,_,_,_⟩ rfl (by kernel_rfl) (fun _ _ _ h=>h) (by rfl) (by assumption) ?_
  simp only [Act.put,sA,sB,sC]
  refine tn 15 ⟨some 22,_,_,_,_,_⟩ rfl (by kernel_rfl) (fun _ _ _ h=>h) (by rfl) (by assumption) ?_
  simp only [Act.put,sA,sB,sC]
  refine wpAnyH_ready (rs:=[16]) (by kernel_rfl) (by simp) ?_
  refine AllReadyH.cons (o:=⟨some 23,_,_,_,_,_⟩) rfl (fun K hK=>?_) AllReadyH.nil
  go_simp
  refine hK.out _ _ ?_ (fun hHeld=>?_)
  · (try dsimp only);(first | assumption | exact s2 | exact s1)
  clear hK K
  try simp only [Act.put,sA,sB,sC]
  refine tn 17 ⟨some 24,_,_,_,_,_⟩ rfl (by kernel_rfl) (fun _ _ _ h=>h) (by rfl) (by assumption) ?_
  simp only [Act.put,sA,sB,sC]
  refine tk 18 ⟨some 25,_,_,_,_,_⟩ ?_ rfl (by kernel_rfl) (fun _ _ _ h=>h) (by rfl) ?_ (by assumption) ?_
  rotate_left
  · intro w hSw;(try dsimp only at hSw);go_simp;(all_goals with_reducible rfl)
  simp only [Act.put,sA,sB,sC]
  refine tk 19 ⟨some 6,_,_,_,_,_⟩ ?_ rfl (by kernel_rfl) (fun _ _ _ h=>h) (by rfl) ?_ (by assumption) ?_
  rotate_left
  · intro w hSw;(try dsimp only at hSw);go_simp;(all_goals with_reducible rfl)
  simp only [Act.put,sA,sB,sC]
  refine wpAnyH_done (by kernel_rfl) ?_ _
  go_wp2_with fail
  go_ret
  exact ⟨rfl,hHeld.2.2.2.2.2.2.2.2.2.2.2.2.2.2.2.2.2.2⟩
set_option maxRecDepth 100000 in
set_option maxHeartbeats 4000000 in
theorem oRight_any (At Ak:Option Addr) (nt nk ct ck:Nat) (l:List Ter) (m:List Knd) (a b c d e W H:Int) (x r y:Value) (lt lr ld:List Int) (T Z:Int) (u:Value) (us:List Uni) (un at':Int) (v:Value) (p:List Int) (w:World) (hB:BrdAt w At Ak nt nk l m x r y lt lr ld) (hS:StaAt w u us) (hp:RdI w v p) (hl:p.length ≤ 1048576) :
    Calls Tryz.prog 85 #[bv (.slice At nt ct) (.slice Ak nk ck) a b c d e W H x r y,sv T Z u,ov un v at'] w fun e' w'=>e'=.returned (.bool (((brdOk ⟨l,m,a,b,c,d,e⟩ W H lt lr ld && staOk ⟨l,m,a,b,c,d,e⟩ W H lt T Z us) && inB un us.length) && decide (ordC (stp l lt lr ld W H b c (unN us un).k.toNat Z) W H (mvN m (unN us un).k) (plcB us (unN us un).s un) (unN us un).a p at'=0)))∧Kp w w':=by
  cases hg:(brdOk ⟨l,m,a,b,c,d,e⟩ W H lt lr ld && staOk ⟨l,m,a,b,c,d,e⟩ W H lt T Z us) && inB un us.length
  · rw [Bool.false_and]
    exact oRight_no At Ak nt nk ct ck l m a b c d e W H x r y lt lr ld T Z u us un at' v p w hB hS hg
  · rw [Bool.true_and]
    have hg2:=hg
    simp only [Bool.and_eq_true] at hg2
    obtain ⟨⟨hok,hst⟩,hun⟩:=hg2
    have CH:=Lib.hid (fun (w:World) hB hS=>sHas_any At Ak nt nk ct ck l m a b c d e W H x r y lt lr ld T Z u us un w hB hS)
    rw [hg] at CH
    obtain ⟨k,rfl,hk,hz⟩:=unN_of hun
    have CF:=Lib.hid (fun (w:World) hB hS hp=>oFault_any At Ak nt nk ct ck l m a b c d e W H x r y lt lr ld T Z u us (unN us (k:Int)).s (k:Int) at' v p w hB hS hok hst hp hl)
    have HB:=Lib.hid hB
    have HP:=Lib.hid hp
    obtain ⟨A,cp,rfl,h⟩:=hS.rd
    obtain ⟨gu,ou,rfl,hc⟩:=h (by omega)
    have HS:=Lib.hid hS
    obtain ⟨q0,q1,q2,q3⟩:=hc k _ hz
    generalize (ordC (stp l lt lr ld W H b c (unN us (k:Int)).k.toNat Z) W H (mvN m (unN us (k:Int)).k) (plcB us (unN us (k:Int)).s (k:Int)) (unN us (k:Int)).a p at')=cc at CF ⊢
    generalize unN us (k:Int)=zz at q0 q1 q2 q3 hz CF
    obtain ⟨sx,kx,ax,tx⟩:=zz
    simp only at q0 q1 q2 q3 CF
    generalize us.length=N at *
    have hk':(k:Int) < N:=by omega
    have KA:Kp w (((w.alloc (.cells #[.slice At nt ct,.slice Ak nk ck,.int .i64 a,.int .i64 b,.int .i64 c,.int .i64 d,.int .i64 e,.int .i64 W,.int .i64 H,x,r,y] 47)).alloc (.cells #[.int .i64 T,.int .i64 Z,.slice (some ⟨gu,ou,none⟩) N cp] 51)).alloc (.cells #[.int .i64 (k:Int),v,.int .i64 at'] 53)):=(((Kp.refl w).alloc _).alloc _).alloc _
    have s0:cb12 (((w.alloc (.cells #[.slice At nt ct,.slice Ak nk ck,.int .i64 a,.int .i64 b,.int .i64 c,.int .i64 d,.int .i64 e,.int .i64 W,.int .i64 H,x,r,y] 47)).alloc (.cells #[.int .i64 T,.int .i64 Z,.slice (some ⟨gu,ou,none⟩) N cp] 51)).alloc (.cells #[.int .i64 (k:Int),v,.int .i64 at'] 53)) (w.heap.size) (.slice At nt ct) (.slice Ak nk ck) (.int .i64 a) (.int .i64 b) (.int .i64 c) (.int .i64 d) (.int .i64 e) (.int .i64 W) (.int .i64 H) (x) (r) (y) (cb3 (((w.alloc (.cells #[.slice At nt ct,.slice Ak nk ck,.int .i64 a,.int .i64 b,.int .i64 c,.int .i64 d,.int .i64 e,.int .i64 W,.int .i64 H,x,r,y] 47)).alloc (.cells #[.int .i64 T,.int .i64 Z,.slice (some ⟨gu,ou,none⟩) N cp] 51)).alloc (.cells #[.int .i64 (k:Int),v,.int .i64 at'] 53)) (w.heap.size + 1) (.int .i64 T) (.int .i64 Z) (.slice (some ⟨gu,ou,none⟩) N cp) (cb3 (((w.alloc (.cells #[.slice At nt ct,.slice Ak nk ck,.int .i64 a,.int .i64 b,.int .i64 c,.int .i64 d,.int .i64 e,.int .i64 W,.int .i64 H,x,r,y] 47)).alloc (.cells #[.int .i64 T,.int .i64 Z,.slice (some ⟨gu,ou,none⟩) N cp] 51)).alloc (.cells #[.int .i64 (k:Int),v,.int .i64 at'] 53)) (w.heap.size + 1 + 1) (.int .i64 (k:Int)) (v) (.int .i64 at') ((((w.alloc (.cells #[.slice At nt ct,.slice Ak nk ck,.int .i64 a,.int .i64 b,.int .i64 c,.int .i64 d,.int .i64 e,.int .i64 W,.int .i64 H,x,r,y] 47)).alloc (.cells #[.int .i64 T,.int .i64 Z,.slice (some ⟨gu,ou,none⟩) N cp] 51)).alloc (.cells #[.int .i64 (k:Int),v,.int .i64 at'] 53)).cell? ⟨gu,ou + k * 4,none⟩=some (.int .i64 sx)∧(((w.alloc (.cells #[.slice At nt ct,.slice Ak nk ck,.int .i64 a,.int .i64 b,.int .i64 c,.int .i64 d,.int .i64 e,.int .i64 W,.int .i64 H,x,r,y] 47)).alloc (.cells #[.int .i64 T,.int .i64 Z,.slice (some ⟨gu,ou,none⟩) N cp] 51)).alloc (.cells #[.int .i64 (k:Int),v,.int .i64 at'] 53)).cell? ⟨gu,ou + k * 4 + 1,none⟩=some (.int .i64 kx)∧(((w.alloc (.cells #[.slice At nt ct,.slice Ak nk ck,.int .i64 a,.int .i64 b,.int .i64 c,.int .i64 d,.int .i64 e,.int .i64 W,.int .i64 H,x,r,y] 47)).alloc (.cells #[.int .i64 T,.int .i64 Z,.slice (some ⟨gu,ou,none⟩) N cp] 51)).alloc (.cells #[.int .i64 (k:Int),v,.int .i64 at'] 53)).cell? ⟨gu,ou + k * 4 + 2,none⟩=some (.int .i64 ax)∧(((w.alloc (.cells #[.slice At nt ct,.slice Ak nk ck,.int .i64 a,.int .i64 b,.int .i64 c,.int .i64 d,.int .i64 e,.int .i64 W,.int .i64 H,x,r,y] 47)).alloc (.cells #[.int .i64 T,.int .i64 Z,.slice (some ⟨gu,ou,none⟩) N cp] 51)).alloc (.cells #[.int .i64 (k:Int),v,.int .i64 at'] 53)).cell? ⟨gu,ou + k * 4 + 3,none⟩=some (.int .i64 tx)∧Kp w (((w.alloc (.cells #[.slice At nt ct,.slice Ak nk ck,.int .i64 a,.int .i64 b,.int .i64 c,.int .i64 d,.int .i64 e,.int .i64 W,.int .i64 H,x,r,y] 47)).alloc (.cells #[.int .i64 T,.int .i64 Z,.slice (some ⟨gu,ou,none⟩) N cp] 51)).alloc (.cells #[.int .i64 (k:Int),v,.int .i64 at'] 53))))):=⟨by simp [go_sem],by simp [go_sem],by simp [go_sem],by simp [go_sem],by simp [go_sem],by simp [go_sem],by simp [go_sem],by simp [go_sem],by simp [go_sem],by simp [go_sem],by simp [go_sem],by simp [go_sem],by simp [go_sem],by simp [go_sem],by simp [go_sem],by simp [go_sem],by simp [go_sem],by simp [go_sem],KA.cell q0,KA.cell q1,KA.cell q2,KA.cell q3,KA⟩
    clear hB hS hp hl hg h hc hz hok hst hun q0 q1 q2 q3 KA
    go_enter Tryz.func85,Tryz.ntmps85
    go_upto_region 1 with (fail)
    have s1:=drewq22 s0
    clear s0
    refine wp_region_held_drew (S:=(fun w'=>cb12 w' (w.heap.size) (.slice At nt ct) (.slice Ak nk ck) (.int .i64 a) (.int .i64 b) (.int .i64 c) (.int .i64 d) (.int .i64 e) (.int .i64 W) (.int .i64 H) (x) (r) (y) (cb3 w' (w.heap.size + 1) (.int .i64 T) (.int .i64 Z) (.slice (some ⟨gu,ou,none⟩) N cp) (cb3 w' (w.heap.size + 1 + 1) (.int .i64 (k:Int)) (v) (.int .i64 at') (w'.cell? ⟨gu,ou + k * 4,none⟩=some (.int .i64 sx)∧w'.cell? ⟨gu,ou + k * 4 + 1,none⟩=some (.int .i64 kx)∧w'.cell? ⟨gu,ou + k * 4 + 2,none⟩=some (.int .i64 ax)∧w'.cell? ⟨gu,ou + k * 4 + 3,none⟩=some (.int .i64 tx)∧Kp w w'))))) (by kernel_rfl) ?_ (fun hHeld=>?_)
    · exact s1
    refine tk 0 ⟨some 7,_,_,_,_,_⟩ ?_ rfl (by kernel_rfl) (fun _ _ _ h=>h) (by rfl) ?_ (by assumption) ?_
    rotate_left
    · intro w hSw;(try dsimp only at hSw);go_simp;(all_goals with_reducible rfl)
    simp only [Act.put,sA,sB,sC]
    refine tk 1 ⟨some 8,_,_,_,_,_⟩ ?_ rfl (by kernel_rfl) (fun _ _ _ h=>h) (by rfl) ?_ (by assumption) ?_
    rotate_left
    · intro w hSw;(try dsimp only at hSw);go_simp;(all_goals with_reducible rfl)
    simp only [Act.put,sA,sB,sC]
    refine tk 2 ⟨some 9,_,_,_,_,_⟩ ?_ rfl (by kernel_rfl) (fun _ _ _ h=>h) (by rfl) ?_ (by assumption) ?_
    rotate_left
    · intro w hSw;(try dsimp only at hSw);go_simp;(all_goals with_reducible rfl)
    simp only [Act.put,sA,sB,sC]
    refine tk 3 ⟨some 10,_,_,_,_,_⟩ ?_ rfl (by kernel_rfl) (fun _ _ _ h=>h) (by rfl) ?_ (by assumption) ?_
    rotate_left
    · intro w hSw;(try dsimp only at hSw);go_simp;(all_goals with_reducible rfl)
    simp only [Act.put,sA,sB,sC]
    refine wpAnyH_ready (rs:=[4]) (by kernel_rfl) (by simp) ?_
    refine AllReadyH.cons (o:=⟨some 11,_,_,_,_,_⟩) rfl (fun K hK=>?_) AllReadyH.nil
    go_simp
    refine (CH.out _ (HB.out.keep hHeld.2.2.2.2.2.2.2.2.2.2.2.2.2.2.2.2.2.2.2.2.2.2) (HS.out.keep hHeld.2.2.2.2.2.2.2.2.2.2.2.2.2.2.2.2.2.2.2.2.2.2)).mono ?_;rintro e1 w1 ⟨rfl,k1⟩;have s2:=keepq22 k1 hHeld
    go_wp2_with fail
    refine hK.out _ _ ?_ (fun hHeld=>?_)
    · (try dsimp only);(first | assumption | exact s3 | exact s2 | exact s1)
    clear hK K
    try simp only [Act.put,sA,sB,sC]
    refine tk 5 ⟨some 12,_,_,_,_,_⟩ ?_ rfl (by kernel_rfl) (fun _ _ _ h=>h) (by rfl) ?_ (by assumption) ?_
    rotate_left
    · intro w hSw;(try dsimp only at hSw);go_simp;(all_goals with_reducible rfl)
    simp only [Act.put,sA,sB,sC]
    refine tk 6 ⟨some 13,_,_,_,_,_⟩ ?_ rfl (by kernel_rfl) (fun _ _ _ h=>h) (by rfl) ?_ (by assumption) ?_
    rotate_left
    · intro w hSw;(try dsimp only at hSw);go_simp;(all_goals with_reducible rfl)
    simp only [Act.put,sA,sB,sC]
    refine tk 7 ⟨some 14,_,_,_,_,_⟩ ?_ rfl (by kernel_rfl) (fun _ _ _ h=>h) (by rfl) ?_ (by assumption) ?_
    rotate_left
    · intro w hSw;(try dsimp only at hSw);go_simp;(all_goals with_reducible rfl)
    simp only [Act.put,sA,sB,sC]
    refine tk 8 ⟨some 15,_,_,_,_,_⟩ ?_ rfl (by kernel_rfl) (fun _ _ _ h=>h) (by rfl) ?_ (by assumption) ?_
    rotate_left
    · intro w hSw;(try dsimp only at hSw);go_simp;(all_goals with_reducible rfl)
    simp only [Act.put,sA,sB,sC]
    refine tk 9 ⟨some 16,_,_,_,_,_⟩ ?_ rfl (by kernel_rfl) (fun _ _ _ h=>h) (by rfl) ?_ (by assumption) ?_
    rotate_left
    · intro w hSw;(try dsimp only at hSw);go_simp;(all_goals with_reducible rfl)
    simp only [Act.put,sA,sB,sC]
    refine tk 10 ⟨some 17,_,_,_,_,_⟩ ?_ rfl (by kernel_rfl) (fun _ _ _ h=>h) (by rfl) ?_ (by assumption) ?_
    rotate_left
    · intro w hSw;(try dsimp only at hSw);go_simp;(all_goals with_reducible rfl)
    simp only [Act.put,sA,sB,sC]
    refine tk 11 ⟨some 18,_,_,_,_,_⟩ ?_ rfl (by kernel_rfl) (fun _ _ _ h=>h) (by rfl) ?_ (by assumption) ?_
    rotate_left
    · intro w hSw;(try dsimp only at hSw);go_simp;(all_goals with_reducible rfl)
    simp only [Act.put,sA,sB,sC]
    refine tk 12 ⟨some 19,_,_,_,_,_⟩ ?_ rfl (by kernel_rfl) (fun _ _ _ h=>h) (by rfl) ?_ (by assumption) ?_
    rotate_left
    · intro w hSw;(try dsimp only at hSw);go_simp;(all_goals with_reducible rfl)
    simp only [Act.put,sA,sB,sC]
    refine tk 13 ⟨some 20,_,_,_,_,_⟩ ?_ rfl (by kernel_rfl) (fun _ _ _ h=>h) (by rfl) ?_ (by assumption) ?_
    rotate_left
    · intro w hSw;(try dsimp only at hSw);go_simp;(all_goals with_reducible rfl)
    simp only [Act.put,sA,sB,sC]
    refine tk 14 ⟨some 21,_,_,_,_,_⟩ ?_ rfl (by kernel_rfl) (fun _ _ _ h=>h) (by rfl) ?_ (by assumption) ?_
    rotate_left
    · intro w hSw;(try dsimp only at hSw);go_simp;(all_goals with_reducible rfl)
    simp only [Act.put,sA,sB,sC]
    refine tk 15 ⟨some 22,_,_,_,_,_⟩ ?_ rfl (by kernel_rfl) (fun _ _ _ h=>h) (by rfl) ?_ (by assumption) ?_
    rotate_left
    · intro w hSw;(try dsimp only at hSw);go_simp;(all_goals with_reducible rfl)
    simp only [Act.put,sA,sB,sC]
    refine wpAnyH_ready (rs:=[16]) (by kernel_rfl) (by simp) ?_
    refine AllReadyH.cons (o:=⟨some 23,_,_,_,_,_⟩) rfl (fun K hK=>?_) AllReadyH.nil
    go_simp
    refine (CF.out _ (HB.out.keep hHeld.2.2.2.2.2.2.2.2.2.2.2.2.2.2.2.2.2.2.2.2.2.2) (HS.out.keep hHeld.2.2.2.2.2.2.2.2.2.2.2.2.2.2.2.2.2.2.2.2.2.2) (HP.out.keep hHeld.2.2.2.2.2.2.2.2.2.2.2.2.2.2.2.2.2.2.2.2.2.2)).mono ?_;rintro e2 w2 ⟨rfl,k2⟩;have s3:=keepq22 k2 hHeld
    go_wp2_with fail
    refine hK.out _ _ ?_ (fun hHeld=>?_)
    · (try dsimp only);(first | assumption | exact s3 | exact s2 | exact s1)
    clear hK K
    try simp only [Act.put,sA,sB,sC]
    refine tk 17 ⟨some 24,_,_,_,_,_⟩ ?_ rfl (by kernel_rfl) (fun _ _ _ h=>h) (by rfl) ?_ (by assumption) ?_
    rotate_left
    · intro w hSw;(try dsimp only at hSw);go_simp;(all_goals with_reducible rfl)
    simp only [Act.put,sA,sB,sC]
    refine tk 18 ⟨some 25,_,_,_,_,_⟩ ?_ rfl (by kernel_rfl) (fun _ _ _ h=>h) (by rfl) ?_ (by assumption) ?_
    rotate_left
    · intro w hSw;(try dsimp only at hSw);go_simp;(all_goals with_reducible rfl)
    simp only [Act.put,sA,sB,sC]
    refine tk 19 ⟨some 6,_,_,_,_,_⟩ ?_ rfl (by kernel_rfl) (fun _ _ _ h=>h) (by rfl) ?_ (by assumption) ?_
    rotate_left
    · intro w hSw;(try dsimp only at hSw);go_simp;(all_goals with_reducible rfl)
    simp only [Act.put,sA,sB,sC]
    refine wpAnyH_done (by kernel_rfl) ?_ _
    go_wp2_with fail
    go_ret
    exact ⟨ret_bool (by simp [Bool.beq_eq_decide_eq]),hHeld.2.2.2.2.2.2.2.2.2.2.2.2.2.2.2.2.2.2.2.2.2.2⟩
theorem oEnd_at (At Ak:Option Addr) (nt nk ct ck:Nat) (l:List Ter) (m:List Knd) (a b c d e W H:Int) (x r y:Value) (lt lr ld:List Int) (T Z:Int) (u:Value) (us:List Uni) (un at':Int) (v:Value) (p:List Int) (w:World) (hB:BrdAt w At Ak nt nk l m x r y lt lr ld) (hS:StaAt w u us) (hp:RdI w v p) (_hl:p.length ≤ 1048576) (hg:(((brdOk ⟨l,m,a,b,c,d,e⟩ W H lt lr ld && staOk ⟨l,m,a,b,c,d,e⟩ W H lt T Z us) && inB un us.length) && decide (ordC (stp l lt lr ld W H b c (unN us un).k.toNat Z) W H (mvN m (unN us un).k) (plcB us (unN us un).s un) (unN us un).a p at'=0))=true) :
    Calls Tryz.prog 86 #[bv (.slice At nt ct) (.slice Ak nk ck) a b c d e W H x r y,sv T Z u,ov un v at'] w fun e' w'=>e'=.returned (.int .i64 (endP W (unN us un).a p))∧Kp w w':=by
  simp only [Bool.and_eq_true,decide_eq_true_iff] at hg
  obtain ⟨⟨⟨hok,hst⟩,hun⟩,h0⟩:=hg
  obtain ⟨h1,h2⟩:=ordC_zero h0
  obtain ⟨k,rfl,hk,hz⟩:=unN_of hun
  obtain ⟨A,cp,rfl,h⟩:=hS.rd
  obtain ⟨gu,ou,rfl,hc⟩:=h (by omega)
  have q:=hc k _ hz
  have hu':uniOk l m W H lt (unN us (k:Int))=true:=(staOk_parts hst).2.2.1 _ (List.mem_of_getElem? hz)
  obtain ⟨j,kd,e1,hj,hkd,hon⟩:=ord_kind hu' (plc_parts h1).2.2
  have hnk:0 < nk:=by have:=hB.R.rk.1;omega
  obtain ⟨gk,ok',rfl,hck⟩:=hB.R.rk.2 hnk
  rw [e1,Int.toNat_natCast] at h2
  try rw [e1,Int.toNat_natCast]
  generalize unN us (k:Int)=zz at q hon e1 h2 ⊢
  obtain ⟨sx,kx,ax,tx⟩:=zz
  simp only at q hon e1 h2 ⊢
  subst e1
  exact oEnd_yes At nt nk ct ck l m a b c d e W H x r y lt lr ld T Z us k j sx ax tx gu ou us.length cp gk ok' at' v p w hok hp hk hon q h2
theorem oCost_at (At Ak:Option Addr) (nt nk ct ck:Nat) (l:List Ter) (m:List Knd) (a b c d e W H:Int) (x r y:Value) (lt lr ld:List Int) (T Z:Int) (u:Value) (us:List Uni) (un at':Int) (v:Value) (p:List Int) (w:World) (hB:BrdAt w At Ak nt nk l m x r y lt lr ld) (hS:StaAt w u us) (hp:RdI w v p) (hl:p.length ≤ 1048576) (hg:(((brdOk ⟨l,m,a,b,c,d,e⟩ W H lt lr ld && staOk ⟨l,m,a,b,c,d,e⟩ W H lt T Z us) && inB un us.length) && decide (ordC (stp l lt lr ld W H b c (unN us un).k.toNat Z) W H (mvN m (unN us un).k) (plcB us (unN us un).s un) (unN us un).a p at'=0))=true) :
    Calls Tryz.prog 88 #[bv (.slice At nt ct) (.slice Ak nk ck) a b c d e W H x r y,sv T Z u,ov un v at'] w fun e' w'=>e'=.returned (.int .i64 (sumL (cstP (stp l lt lr ld W H b c (unN us un).k.toNat Z) W (unN us un).a p)))∧Kp w w':=by
  simp only [Bool.and_eq_true,decide_eq_true_iff] at hg
  obtain ⟨⟨⟨hok,hst⟩,hun⟩,h0⟩:=hg
  obtain ⟨h1,h2⟩:=ordC_zero h0
  obtain ⟨k,rfl,hk,hz⟩:=unN_of hun
  obtain ⟨A,cp,rfl,h⟩:=hS.rd
  obtain ⟨gu,ou,rfl,hc⟩:=h (by omega)
  have q:=hc k _ hz
  have hu':uniOk l m W H lt (unN us (k:Int))=true:=(staOk_parts hst).2.2.1 _ (List.mem_of_getElem? hz)
  obtain ⟨j,kd,e1,hj,hkd,hon⟩:=ord_kind hu' (plc_parts h1).2.2
  have hnk:0 < nk:=by have:=hB.R.rk.1;omega
  obtain ⟨gk,ok',rfl,hck⟩:=hB.R.rk.2 hnk
  rw [e1,Int.toNat_natCast] at h2
  try rw [e1,Int.toNat_natCast]
  generalize unN us (k:Int)=zz at q hon e1 h2 ⊢
  obtain ⟨sx,kx,ax,tx⟩:=zz
  simp only at q hon e1 h2 ⊢
  subst e1
  have h3:=oCost_yes At nt nk ct ck l m a b c d e W H x r y lt lr ld T Z us k j sx ax tx gu ou us.length cp gk ok' at' v p w hB hok (Int_three (staOk_parts hst).1.2) hp hl hk hj hon q
  rw [h2,if_pos rfl] at h3
  exact h3
set_option maxRecDepth 100000 in
set_option maxHeartbeats 4000000 in
theorem specEndOf_any (At Ak:Option Addr) (nt nk ct ck:Nat) (l:List Ter) (m:List Knd) (a b c d e W H:Int) (x r y:Value) (lt lr ld:List Int) (T Z:Int) (u:Value) (us:List Uni) (un at':Int) (v:Value) (p:List Int) (w:World) (hB:BrdAt w At Ak nt nk l m x r y lt lr ld) (hS:StaAt w u us) (hp:RdI w v p) (hl:p.length ≤ 1048576) :
    Calls Tryz.prog 32 #[bv (.slice At nt ct) (.slice Ak nk ck) a b c d e W H x r y,sv T Z u,ov un v at'] w fun e' w'=>e'=.returned (ib (((brdOk ⟨l,m,a,b,c,d,e⟩ W H lt lr ld && staOk ⟨l,m,a,b,c,d,e⟩ W H lt T Z us) && inB un us.length) && decide (ordC (stp l lt lr ld W H b c (unN us un).k.toNat Z) W H (mvN m (unN us un).k) (plcB us (unN us un).s un) (unN us un).a p at'=0)) (endP W (unN us un).a p))∧Kp w w':=by
  have KA:Kp w (((w.alloc (.cells #[.slice At nt ct,.slice Ak nk ck,.int .i64 a,.int .i64 b,.int .i64 c,.int .i64 d,.int .i64 e,.int .i64 W,.int .i64 H,x,r,y] 47)).alloc (.cells #[.int .i64 T,.int .i64 Z,u] 51)).alloc (.cells #[.int .i64 un,v,.int .i64 at'] 53)):=((((Kp.refl w).alloc _).alloc _).alloc _)
  have s0:cb12 (((w.alloc (.cells #[.slice At nt ct,.slice Ak nk ck,.int .i64 a,.int .i64 b,.int .i64 c,.int .i64 d,.int .i64 e,.int .i64 W,.int .i64 H,x,r,y] 47)).alloc (.cells #[.int .i64 T,.int .i64 Z,u] 51)).alloc (.cells #[.int .i64 un,v,.int .i64 at'] 53)) (w.heap.size) (.slice At nt ct) (.slice Ak nk ck) (.int .i64 a) (.int .i64 b) (.int .i64 c) (.int .i64 d) (.int .i64 e) (.int .i64 W) (.int .i64 H) (x) (r) (y) (cb3 (((w.alloc (.cells #[.slice At nt ct,.slice Ak nk ck,.int .i64 a,.int .i64 b,.int .i64 c,.int .i64 d,.int .i64 e,.int .i64 W,.int .i64 H,x,r,y] 47)).alloc (.cells #[.int .i64 T,.int .i64 Z,u] 51)).alloc (.cells #[.int .i64 un,v,.int .i64 at'] 53)) (w.heap.size + 1) (.int .i64 T) (.int .i64 Z) (u) (cb3 (((w.alloc (.cells #[.slice At nt ct,.slice Ak nk ck,.int .i64 a,.int .i64 b,.int .i64 c,.int .i64 d,.int .i64 e,.int .i64 W,.int .i64 H,x,r,y] 47)).alloc (.cells #[.int .i64 T,.int .i64 Z,u] 51)).alloc (.cells #[.int .i64 un,v,.int .i64 at'] 53)) (w.heap.size + 1 + 1) (.int .i64 un) (v) (.int .i64 at') (Kp w (((w.alloc (.cells #[.slice At nt ct,.slice Ak nk ck,.int .i64 a,.int .i64 b,.int .i64 c,.int .i64 d,.int .i64 e,.int .i64 W,.int .i64 H,x,r,y] 47)).alloc (.cells #[.int .i64 T,.int .i64 Z,u] 51)).alloc (.cells #[.int .i64 un,v,.int .i64 at'] 53))))):=⟨by simp [go_sem],by simp [go_sem],by simp [go_sem],by simp [go_sem],by simp [go_sem],by simp [go_sem],by simp [go_sem],by simp [go_sem],by simp [go_sem],by simp [go_sem],by simp [go_sem],by simp [go_sem],by simp [go_sem],by simp [go_sem],by simp [go_sem],by simp [go_sem],by simp [go_sem],by simp [go_sem],KA⟩
  have HB:=Lib.hid hB
  have HS:=Lib.hid hS
  have HP:=Lib.hid hp
  have CR:=Lib.hid (fun (w:World) hB hS hp=>oRight_any At Ak nt nk ct ck l m a b c d e W H x r y lt lr ld T Z u us un at' v p w hB hS hp hl)
  have CV:Hid ((((brdOk ⟨l,m,a,b,c,d,e⟩ W H lt lr ld && staOk ⟨l,m,a,b,c,d,e⟩ W H lt T Z us) && inB un us.length) && decide (ordC (stp l lt lr ld W H b c (unN us un).k.toNat Z) W H (mvN m (unN us un).k) (plcB us (unN us un).s un) (unN us un).a p at'=0))=true→∀ w,BrdAt w At Ak nt nk l m x r y lt lr ld→StaAt w u us→RdI w v p→Calls Tryz.prog 86 #[bv (.slice At nt ct) (.slice Ak nk ck) a b c d e W H x r y,sv T Z u,ov un v at'] w fun e' w'=>e'=.returned (.int .i64 (endP W (unN us un).a p))∧Kp w w'):=Lib.hid fun h w hB hS hp=>oEnd_at At Ak nt nk ct ck l m a b c d e W H x r y lt lr ld T Z u us un at' v p w hB hS hp hl h
  clear hB hS hp hl KA
  cases hg:((brdOk ⟨l,m,a,b,c,d,e⟩ W H lt lr ld && staOk ⟨l,m,a,b,c,d,e⟩ W H lt T Z us) && inB un us.length) && decide (ordC (stp l lt lr ld W H b c (unN us un).k.toNat Z) W H (mvN m (unN us un).k) (plcB us (unN us un).s un) (unN us un).a p at'=0)
  · rw [hg] at CR
    rw [ib_false]
    clear hg CV
    go_enter Tryz.func32,Tryz.ntmps32
    go_wp2_with fail
    refine (CR.out _ (HB.out.keep s0.2.2.2.2.2.2.2.2.2.2.2.2.2.2.2.2.2.2) (HS.out.keep s0.2.2.2.2.2.2.2.2.2.2.2.2.2.2.2.2.2.2) (HP.out.keep s0.2.2.2.2.2.2.2.2.2.2.2.2.2.2.2.2.2.2)).mono ?_
    rintro e1 w1 ⟨rfl,k1⟩
    go_wp2_with fail
    go_ret2
    exact ⟨rfl,s0.2.2.2.2.2.2.2.2.2.2.2.2.2.2.2.2.2.2.trans k1⟩
  · rw [hg] at CR
    have CV:=Lib.hid (CV.out hg)
    rw [ib_true]
    generalize (endP W (unN us un).a p)=VV at CV ⊢
    clear hg
    go_enter Tryz.func32,Tryz.ntmps32
    go_wp2_with fail
    refine (CR.out _ (HB.out.keep s0.2.2.2.2.2.2.2.2.2.2.2.2.2.2.2.2.2.2) (HS.out.keep s0.2.2.2.2.2.2.2.2.2.2.2.2.2.2.2.2.2.2) (HP.out.keep s0.2.2.2.2.2.2.2.2.2.2.2.2.2.2.2.2.2.2)).mono ?_
    rintro e1 w1 ⟨rfl,k1⟩
    have s1:=keepq18 k1 s0
    clear s0 k1
    go_wp2_with fail
    refine (CV.out _ (HB.out.keep s1.2.2.2.2.2.2.2.2.2.2.2.2.2.2.2.2.2.2) (HS.out.keep s1.2.2.2.2.2.2.2.2.2.2.2.2.2.2.2.2.2.2) (HP.out.keep s1.2.2.2.2.2.2.2.2.2.2.2.2.2.2.2.2.2.2)).mono ?_
    rintro e2 w2 ⟨rfl,k2⟩
    go_wp2_with fail
    go_ret2
    exact ⟨rfl,s1.2.2.2.2.2.2.2.2.2.2.2.2.2.2.2.2.2.2.trans k2⟩
set_option maxRecDepth 100000 in
set_option maxHeartbeats 4000000 in
theorem specOrderCost_any (At Ak:Option Addr) (nt nk ct ck:Nat) (l:List Ter) (m:List Knd) (a b c d e W H:Int) (x r y:Value) (lt lr ld:List Int) (T Z:Int) (u:Value) (us:List Uni) (un at':Int) (v:Value) (p:List Int) (w:World) (hB:BrdAt w At Ak nt nk l m x r y lt lr ld) (hS:StaAt w u us) (hp:RdI w v p) (hl:p.length ≤ 1048576) :
    Calls Tryz.prog 34 #[bv (.slice At nt ct) (.slice Ak nk ck) a b c d e W H x r y,sv T Z u,ov un v at'] w fun e' w'=>e'=.returned (ib (((brdOk ⟨l,m,a,b,c,d,e⟩ W H lt lr ld && staOk ⟨l,m,a,b,c,d,e⟩ W H lt T Z us) && inB un us.length) && decide (ordC (stp l lt lr ld W H b c (unN us un).k.toNat Z) W H (mvN m (unN us un).k) (plcB us (unN us un).s un) (unN us un).a p at'=0)) (sumL (cstP (stp l lt lr ld W H b c (unN us un).k.toNat Z) W (unN us un).a p)))∧Kp w w':=by
  have KA:Kp w (((w.alloc (.cells #[.slice At nt ct,.slice Ak nk ck,.int .i64 a,.int .i64 b,.int .i64 c,.int .i64 d,.int .i64 e,.int .i64 W,.int .i64 H,x,r,y] 47)).alloc (.cells #[.int .i64 T,.int .i64 Z,u] 51)).alloc (.cells #[.int .i64 un,v,.int .i64 at'] 53)):=((((Kp.refl w).alloc _).alloc _).alloc _)
  have s0:cb12 (((w.alloc (.cells #[.slice At nt ct,.slice Ak nk ck,.int .i64 a,.int .i64 b,.int .i64 c,.int .i64 d,.int .i64 e,.int .i64 W,.int .i64 H,x,r,y] 47)).alloc (.cells #[.int .i64 T,.int .i64 Z,u] 51)).alloc (.cells #[.int .i64 un,v,.int .i64 at'] 53)) (w.heap.size) (.slice At nt ct) (.slice Ak nk ck) (.int .i64 a) (.int .i64 b) (.int .i64 c) (.int .i64 d) (.int .i64 e) (.int .i64 W) (.int .i64 H) (x) (r) (y) (cb3 (((w.alloc (.cells #[.slice At nt ct,.slice Ak nk ck,.int .i64 a,.int .i64 b,.int .i64 c,.int .i64 d,.int .i64 e,.int .i64 W,.int .i64 H,x,r,y] 47)).alloc (.cells #[.int .i64 T,.int .i64 Z,u] 51)).alloc (.cells #[.int .i64 un,v,.int .i64 at'] 53)) (w.heap.size + 1) (.int .i64 T) (.int .i64 Z) (u) (cb3 (((w.alloc (.cells #[.slice At nt ct,.slice Ak nk ck,.int .i64 a,.int .i64 b,.int .i64 c,.int .i64 d,.int .i64 e,.int .i64 W,.int .i64 H,x,r,y] 47)).alloc (.cells #[.int .i64 T,.int .i64 Z,u] 51)).alloc (.cells #[.int .i64 un,v,.int .i64 at'] 53)) (w.heap.size + 1 + 1) (.int .i64 un) (v) (.int .i64 at') (Kp w (((w.alloc (.cells #[.slice At nt ct,.slice Ak nk ck,.int .i64 a,.int .i64 b,.int .i64 c,.int .i64 d,.int .i64 e,.int .i64 W,.int .i64 H,x,r,y] 47)).alloc (.cells #[.int .i64 T,.int .i64 Z,u] 51)).alloc (.cells #[.int .i64 un,v,.int .i64 at'] 53))))):=⟨by simp [go_sem],by simp [go_sem],by simp [go_sem],by simp [go_sem],by simp [go_sem],by simp [go_sem],by simp [go_sem],by simp [go_sem],by simp [go_sem],by simp [go_sem],by simp [go_sem],by simp [go_sem],by simp [go_sem],by simp [go_sem],by simp [go_sem],by simp [go_sem],by simp [go_sem],by simp [go_sem],KA⟩
  have HB:=Lib.hid hB
  have HS:=Lib.hid hS
  have HP:=Lib.hid hp
  have CR:=Lib.hid (fun (w:World) hB hS hp=>oRight_any At Ak nt nk ct ck l m a b c d e W H x r y lt lr ld T Z u us un at' v p w hB hS hp hl)
  have CV:Hid ((((brdOk ⟨l,m,a,b,c,d,e⟩ W H lt lr ld && staOk ⟨l,m,a,b,c,d,e⟩ W H lt T Z us) && inB un us.length) && decide (ordC (stp l lt lr ld W H b c (unN us un).k.toNat Z) W H (mvN m (unN us un).k) (plcB us (unN us un).s un) (unN us un).a p at'=0))=true→∀ w,BrdAt w At Ak nt nk l m x r y lt lr ld→StaAt w u us→RdI w v p→Calls Tryz.prog 88 #[bv (.slice At nt ct) (.slice Ak nk ck) a b c d e W H x r y,sv T Z u,ov un v at'] w fun e' w'=>e'=.returned (.int .i64 (sumL (cstP (stp l lt lr ld W H b c (unN us un).k.toNat Z) W (unN us un).a p)))∧Kp w w'):=Lib.hid fun h w hB hS hp=>oCost_at At Ak nt nk ct ck l m a b c d e W H x r y lt lr ld T Z u us un at' v p w hB hS hp hl h
  clear hB hS hp hl KA
  cases hg:((brdOk ⟨l,m,a,b,c,d,e⟩ W H lt lr ld && staOk ⟨l,m,a,b,c,d,e⟩ W H lt T Z us) && inB un us.length) && decide (ordC (stp l lt lr ld W H b c (unN us un).k.toNat Z) W H (mvN m (unN us un).k) (plcB us (unN us un).s un) (unN us un).a p at'=0)
  · rw [hg] at CR
    rw [ib_false]
    clear hg CV
    go_enter Tryz.func34,Tryz.ntmps34
    go_wp2_with fail
    refine (CR.out _ (HB.out.keep s0.2.2.2.2.2.2.2.2.2.2.2.2.2.2.2.2.2.2) (HS.out.keep s0.2.2.2.2.2.2.2.2.2.2.2.2.2.2.2.2.2.2) (HP.out.keep s0.2.2.2.2.2.2.2.2.2.2.2.2.2.2.2.2.2.2)).mono ?_
    rintro e1 w1 ⟨rfl,k1⟩
    go_wp2_with fail
    go_ret2
    exact ⟨rfl,s0.2.2.2.2.2.2.2.2.2.2.2.2.2.2.2.2.2.2.trans k1⟩
  · rw [hg] at CR
    have CV:=Lib.hid (CV.out hg)
    rw [ib_true]
    generalize (sumL (cstP (stp l lt lr ld W H b c (unN us un).k.toNat Z) W (unN us un).a p))=VV at CV ⊢
    clear hg
    go_enter Tryz.func34,Tryz.ntmps34
    go_wp2_with fail
    refine (CR.out _ (HB.out.keep s0.2.2.2.2.2.2.2.2.2.2.2.2.2.2.2.2.2.2) (HS.out.keep s0.2.2.2.2.2.2.2.2.2.2.2.2.2.2.2.2.2.2) (HP.out.keep s0.2.2.2.2.2.2.2.2.2.2.2.2.2.2.2.2.2.2)).mono ?_
    rintro e1 w1 ⟨rfl,k1⟩
    have s1:=keepq18 k1 s0
    clear s0 k1
    go_wp2_with fail
    refine (CV.out _ (HB.out.keep s1.2.2.2.2.2.2.2.2.2.2.2.2.2.2.2.2.2.2) (HS.out.keep s1.2.2.2.2.2.2.2.2.2.2.2.2.2.2.2.2.2.2) (HP.out.keep s1.2.2.2.2.2.2.2.2.2.2.2.2.2.2.2.2.2.2)).mono ?_
    rintro e2 w2 ⟨rfl,k2⟩
    go_wp2_with fail
    go_ret2
    exact ⟨rfl,s1.2.2.2.2.2.2.2.2.2.2.2.2.2.2.2.2.2.2.trans k2⟩
set_option maxRecDepth 100000 in
set_option maxHeartbeats 4000000 in
theorem specOrderFault_any (At Ak:Option Addr) (nt nk ct ck:Nat) (l:List Ter) (m:List Knd) (a b c d e W H:Int) (x r y:Value) (lt lr ld:List Int) (T Z:Int) (u:Value) (us:List Uni) (sd:Int) (un at':Int) (v:Value) (p:List Int) (w:World) (hB:BrdAt w At Ak nt nk l m x r y lt lr ld) (hS:StaAt w u us) (hp:RdI w v p) (hl:p.length ≤ 1048576) :
    Calls Tryz.prog 17 #[bv (.slice At nt ct) (.slice Ak nk ck) a b c d e W H x r y,sv T Z u,.int .i64 sd,ov un v at'] w fun e' w'=>e'=.returned (ib ((brdOk ⟨l,m,a,b,c,d,e⟩ W H lt lr ld && staOk ⟨l,m,a,b,c,d,e⟩ W H lt T Z us) && spB 0 1 sd) (ordC (stp l lt lr ld W H b c (unN us un).k.toNat Z) W H (mvN m (unN us un).k) (plcB us sd un) (unN us un).a p at'))∧Kp w w':=by
  have KA:Kp w (((w.alloc (.cells #[.slice At nt ct,.slice Ak nk ck,.int .i64 a,.int .i64 b,.int .i64 c,.int .i64 d,.int .i64 e,.int .i64 W,.int .i64 H,x,r,y] 47)).alloc (.cells #[.int .i64 T,.int .i64 Z,u] 51)).alloc (.cells #[.int .i64 un,v,.int .i64 at'] 53)):=((((Kp.refl w).alloc _).alloc _).alloc _)
  have s0:cb12 (((w.alloc (.cells #[.slice At nt ct,.slice Ak nk ck,.int .i64 a,.int .i64 b,.int .i64 c,.int .i64 d,.int .i64 e,.int .i64 W,.int .i64 H,x,r,y] 47)).alloc (.cells #[.int .i64 T,.int .i64 Z,u] 51)).alloc (.cells #[.int .i64 un,v,.int .i64 at'] 53)) (w.heap.size) (.slice At nt ct) (.slice Ak nk ck) (.int .i64 a) (.int .i64 b) (.int .i64 c) (.int .i64 d) (.int .i64 e) (.int .i64 W) (.int .i64 H) (x) (r) (y) (cb3 (((w.alloc (.cells #[.slice At nt ct,.slice Ak nk ck,.int .i64 a,.int .i64 b,.int .i64 c,.int .i64 d,.int .i64 e,.int .i64 W,.int .i64 H,x,r,y] 47)).alloc (.cells #[.int .i64 T,.int .i64 Z,u] 51)).alloc (.cells #[.int .i64 un,v,.int .i64 at'] 53)) (w.heap.size + 1) (.int .i64 T) (.int .i64 Z) (u) (cb3 (((w.alloc (.cells #[.slice At nt ct,.slice Ak nk ck,.int .i64 a,.int .i64 b,.int .i64 c,.int .i64 d,.int .i64 e,.int .i64 W,.int .i64 H,x,r,y] 47)).alloc (.cells #[.int .i64 T,.int .i64 Z,u] 51)).alloc (.cells #[.int .i64 un,v,.int .i64 at'] 53)) (w.heap.size + 1 + 1) (.int .i64 un) (v) (.int .i64 at') (Kp w (((w.alloc (.cells #[.slice At nt ct,.slice Ak nk ck,.int .i64 a,.int .i64 b,.int .i64 c,.int .i64 d,.int .i64 e,.int .i64 W,.int .i64 H,x,r,y] 47)).alloc (.cells #[.int .i64 T,.int .i64 Z,u] 51)).alloc (.cells #[.int .i64 un,v,.int .i64 at'] 53))))):=⟨by simp [go_sem],by simp [go_sem],by simp [go_sem],by simp [go_sem],by simp [go_sem],by simp [go_sem],by simp [go_sem],by simp [go_sem],by simp [go_sem],by simp [go_sem],by simp [go_sem],by simp [go_sem],by simp [go_sem],by simp [go_sem],by simp [go_sem],by simp [go_sem],by simp [go_sem],by simp [go_sem],KA⟩
  have HB:=Lib.hid hB
  have HS:=Lib.hid hS
  have HP:=Lib.hid hp
  have C0:=Lib.hid (fun (w:World) hB hS=>sGood_any At Ak nt nk ct ck l m a b c d e W H x r y lt lr ld T Z u us w hB hS)
  have CH:=Lib.hid (fun (w:World)=>l1In_sp sd 0 1 w)
  clear hB hS hp KA
  cases hg:brdOk ⟨l,m,a,b,c,d,e⟩ W H lt lr ld && staOk ⟨l,m,a,b,c,d,e⟩ W H lt T Z us
  · rw [hg] at C0
    rw [Bool.false_and,ib_false]
    clear hg CH
    go_enter Tryz.func17,Tryz.ntmps17
    go_wp2_with fail
    refine (C0.out _ (HB.out.keep s0.2.2.2.2.2.2.2.2.2.2.2.2.2.2.2.2.2.2) (HS.out.keep s0.2.2.2.2.2.2.2.2.2.2.2.2.2.2.2.2.2.2)).mono ?_
    rintro e1 w1 ⟨rfl,k1⟩
    have s1:=keepq18 k1 s0
    clear s0 k1
    go_wp2_with fail
    go_ret2
    exact ⟨rfl,s1.2.2.2.2.2.2.2.2.2.2.2.2.2.2.2.2.2.2⟩
  · rw [hg] at C0
    rw [Bool.true_and]
    simp only [Bool.and_eq_true] at hg
    obtain ⟨hok,hst⟩:=hg
    cases hsd:spB 0 1 sd
    · rw [hsd] at CH
      rw [ib_false]
      clear hsd hok hst
      go_enter Tryz.func17,Tryz.ntmps17
      go_wp2_with fail
      refine (C0.out _ (HB.out.keep s0.2.2.2.2.2.2.2.2.2.2.2.2.2.2.2.2.2.2) (HS.out.keep s0.2.2.2.2.2.2.2.2.2.2.2.2.2.2.2.2.2.2)).mono ?_
      rintro e1 w1 ⟨rfl,k1⟩
      have s1:=keepq18 k1 s0
      clear s0 k1
      go_wp2_with fail
      refine (CH.out _).mono ?_
      rintro e2 w2 ⟨rfl,rfl⟩
      go_wp2_with fail
      go_ret2
      exact ⟨rfl,s1.2.2.2.2.2.2.2.2.2.2.2.2.2.2.2.2.2.2⟩
    · rw [hsd] at CH
      rw [ib_true]
      have CF:=Lib.hid (fun (w:World) hB hS hp=>oFault_any At Ak nt nk ct ck l m a b c d e W H x r y lt lr ld T Z u us sd un at' v p w hB hS hok hst hp hl)
      generalize (ordC (stp l lt lr ld W H b c (unN us un).k.toNat Z) W H (mvN m (unN us un).k) (plcB us sd un) (unN us un).a p at')=c at CF ⊢
      clear hsd hok hst hl
      go_enter Tryz.func17,Tryz.ntmps17
      go_wp2_with fail
      refine (C0.out _ (HB.out.keep s0.2.2.2.2.2.2.2.2.2.2.2.2.2.2.2.2.2.2) (HS.out.keep s0.2.2.2.2.2.2.2.2.2.2.2.2.2.2.2.2.2.2)).mono ?_
      rintro e1 w1 ⟨rfl,k1⟩
      have s1:=keepq18 k1 s0
      clear s0 k1
      go_wp2_with fail
      refine (CH.out _).mono ?_
      rintro e2 w2 ⟨rfl,rfl⟩
      go_wp2_with fail
      refine (CF.out _ (HB.out.keep s1.2.2.2.2.2.2.2.2.2.2.2.2.2.2.2.2.2.2) (HS.out.keep s1.2.2.2.2.2.2.2.2.2.2.2.2.2.2.2.2.2.2) (HP.out.keep s1.2.2.2.2.2.2.2.2.2.2.2.2.2.2.2.2.2.2)).mono ?_
      rintro e3 w3 ⟨rfl,k3⟩
      go_wp2_with fail
      go_ret2
      exact ⟨rfl,s1.2.2.2.2.2.2.2.2.2.2.2.2.2.2.2.2.2.2.trans k3⟩
end Go.Proofs.YtacgknllagdkoaaGreatDoor
