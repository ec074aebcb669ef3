/-
 Texts of this seat in one module: Good, MapF, MapG.
-/
import Derived.Test.YtacgknllagdkoaaGreatDoorQc
/-
 The reference's test of a map returns what a plain function on lists says, and changes nothing that was there.
-/
namespace Go.Proofs.YtacgknllagdkoaaGreatDoor
open Go.RowKit
theorem l1In_side (n:Int) (w:World):Calls Tryz.prog 63 #[.int .i64 n,.int .i64 1,.int .i64 10] w fun e w'=>e=.returned (.bool (sideB n))∧w=w':=l1In_gen n 1 10 w
theorem l1In_side_q (n:Int) (w:World):Calls Tryz.prog 63 #[.int .i64 n,.int .i64 1,.int .i64 10] w fun e w'=>e=.returned (.bool (sideB n))∧w'=w :=
 (l1In_gen n 1 10 w).mono fun _ _ ⟨he,hw⟩=>⟨he,hw.symm⟩
theorem l1All_terr (v:Value) (l:List Int) (w:World) (h:RdI w v l) (hl:l.length≤1048576) :
  Calls Tryz.prog 121 #[v,.int .i64 0,.int .i64 5] w fun e w'=>e=.returned (.bool (l.all terrB))∧w=w':=l1All_any v l 0 5 w h hl
theorem Lists.k5 {w w':World} {b:Nat} {v0 v1 v2 v3 v4 t r d:Value} {lt lr ld:List Int} (hL:Lists w t r d lt lr ld)
  (h:cb5 w' b v0 v1 v2 v3 v4 (Kp w w')):Lists w' t r d lt lr ld:=hL.keep h.2.2.2.2.2
theorem mGood_no1 (W H:Int) (At Ar Ad:Option Addr) (nt ct nr cr nd cd:Nat) (w:World) (h:sideB W=false) :
  Calls Tryz.prog 179 #[mp W H (.slice At nt ct) (.slice Ar nr cr) (.slice Ad nd cd)] w fun e w'=>e=.returned (.bool false)∧Kp w w':=by
 go_enter Tryz.func179,Tryz.ntmps179
 go_wp2_with fail
 go_quiet ((go_at_call 63;exact Calls.quiet_of_same (l1In_side_q _ _)))
 go_wp2_with fail
 go_ret
 exact⟨rfl,((Kp.refl _).alloc _).drewN _⟩
theorem mGood_no2 (W H:Int) (At Ar Ad:Option Addr) (nt ct nr cr nd cd:Nat) (w:World) (h:sideB W=true) (h':sideB H=false) :
  Calls Tryz.prog 179 #[mp W H (.slice At nt ct) (.slice Ar nr cr) (.slice Ad nd cd)] w fun e w'=>e=.returned (.bool false)∧Kp w w':=by
 go_enter Tryz.func179,Tryz.ntmps179
 go_wp2_with fail
 go_quiet ((go_at_call 63;exact Calls.quiet_of_same (l1In_side_q _ _)))
 go_wp2_with fail
 go_ret
 exact⟨rfl,((Kp.refl _).alloc _).drewN _⟩
set_option maxHeartbeats 4000000 in
theorem mGood_no3 (W H:Int) (At Ar Ad:Option Addr) (nt ct nr cr nd cd:Nat) (lt lr ld:List Int) (w:World) (hL:Lists w (.slice At nt ct) (.slice Ar nr cr) (.slice Ad nd cd) lt lr ld) (h:sideB W=true) (h':sideB H=true) (hn:¬ (nt:Int)=W*H) :
  Calls Tryz.prog 179 #[mp W H (.slice At nt ct) (.slice Ar nr cr) (.slice Ad nd cd)] w fun e w'=>e=.returned (.bool false)∧Kp w w':=by
 have s0:=new5 w (.int .i64 W) (.int .i64 H) (.slice At nt ct) (.slice Ar nr cr) (.slice Ad nd cd) 45
 obtain⟨a,b⟩:=sideB_true h
 obtain⟨c,e⟩:=sideB_true h'
 have HL:=Lib.hid hL
 clear hL
 have hne:((nt:Int) == W*H)=false:=by simpa using hn
 clear hn
 go_enter Tryz.func179,Tryz.ntmps179
 go_wp2_with fail
 generalize w.alloc (.cells #[.int .i64 W,.int .i64 H,.slice At nt ct,.slice Ar nr cr,.slice Ad nd cd] 45)=W0 at *
 have s1:=drew5 s0
 refine wp_region_held_drew (S:=(fun w'=>cb5 w' (w.heap.size) (.int .i64 W) (.int .i64 H) (.slice At nt ct) (.slice Ar nr cr) (.slice Ad nd cd) (Kp w w'))) (by kernel_rfl) ?_ (fun hHeld=>?_)
 ·exact s1
 refine tk 0 ⟨some 3,_,_,_,_,_⟩ ?_ rfl (by kernel_rfl) (fun _ _ _ h=>h) (by rfl) ?_ (by assumption) ?_
 rotate_left
 ·intro w hSw;(try dsimp only at hSw);go_simp;(all_goals with_reducible rfl)
 simp only [Act.put,sA,sB,sC]
 refine tk 1 ⟨some 4,_,_,_,_,_⟩ ?_ rfl (by kernel_rfl) (fun _ _ _ h=>h) (by rfl) ?_ (by assumption) ?_
 rotate_left
 ·intro w hSw;(try dsimp only at hSw);go_simp;(all_goals with_reducible rfl)
 simp only [Act.put,sA,sB,sC]
 refine wpAnyH_ready (rs:=[2]) (by kernel_rfl) (by simp) ?_
 refine AllReadyH.cons (o:=⟨some 5,_,_,_,_,_⟩) rfl (fun K hK=>?_) AllReadyH.nil
 go_simp
 refine(l1In_side _ _).mono ?_;rintro e1 wz ⟨rfl,rfl⟩
 go_wp2_with fail
 refine hK.out _ _ ?_ (fun hHeld=>?_)
 ·(try dsimp only);(first | assumption | exact s1)
 clear hK K
 try simp only [Act.put,sA,sB,sC]
 refine tk 3 ⟨some 6,_,_,_,_,_⟩ ?_ rfl (by kernel_rfl) (fun _ _ _ h=>h) (by rfl) ?_ (by assumption) ?_
 rotate_left
 ·intro w hSw;(try dsimp only at hSw);go_simp;(all_goals with_reducible rfl)
 simp only [Act.put,sA,sB,sC]
 refine tk 4 ⟨some 7,_,_,_,_,_⟩ ?_ rfl (by kernel_rfl) (fun _ _ _ h=>h) (by rfl) ?_ (by assumption) ?_
 rotate_left
 ·intro w hSw;(try dsimp only at hSw);go_simp;(all_goals with_reducible rfl)
 simp only [Act.put,sA,sB,sC]
 refine tk 5 ⟨some 8,_,_,_,_,_⟩ ?_ rfl (by kernel_rfl) (fun _ _ _ h=>h) (by rfl) ?_ (by assumption) ?_
 rotate_left
 ·intro w hSw;(try dsimp only at hSw);go_simp;(all_goals with_reducible rfl)
 simp only [Act.put,sA,sB,sC]
 refine wpAnyH_ready (rs:=[6]) (by kernel_rfl) (by simp) ?_
 refine AllReadyH.cons (o:=⟨some 9,_,_,_,_,_⟩) rfl (fun K hK=>?_) AllReadyH.nil
 go_simp
 refine(l1In_side _ _).mono ?_;rintro e1 wz ⟨rfl,rfl⟩
 go_wp2_with fail
 refine hK.out _ _ ?_ (fun hHeld=>?_)
 ·(try dsimp only);(first | assumption | exact s1)
 clear hK K
 try simp only [Act.put,sA,sB,sC]
 refine tk 7 ⟨some 10,_,_,_,_,_⟩ ?_ rfl (by kernel_rfl) (fun _ _ _ h=>h) (by rfl) ?_ (by assumption) ?_
 rotate_left
 ·intro w hSw;(try dsimp only at hSw);go_simp;(all_goals with_reducible rfl)
 simp only [Act.put,sA,sB,sC]
 refine tk 8 ⟨some 11,_,_,_,_,_⟩ ?_ rfl (by kernel_rfl) (fun _ _ _ h=>h) (by rfl) ?_ (by assumption) ?_
 rotate_left
 ·intro w hSw;(try dsimp only at hSw);go_simp;(all_goals with_reducible rfl)
 simp only [Act.put,sA,sB,sC]
 refine tk 9 ⟨some 12,_,_,_,_,_⟩ ?_ rfl (by kernel_rfl) (fun _ _ _ h=>h) (by rfl) ?_ (by assumption) ?_
 rotate_left
 ·intro w hSw;(try dsimp only at hSw);go_simp;(all_goals with_reducible rfl)
 simp only [Act.put,sA,sB,sC]
 refine tk 10 ⟨some 13,_,_,_,_,_⟩ ?_ rfl (by kernel_rfl) (fun _ _ _ h=>h) (by rfl) ?_ (by assumption) ?_
 rotate_left
 ·intro w hSw;(try dsimp only at hSw);go_simp;(all_goals with_reducible rfl)
 simp only [Act.put,sA,sB,sC]
 refine tk 11 ⟨some 14,_,_,_,_,_⟩ ?_ rfl (by kernel_rfl) (fun _ _ _ h=>h) (by rfl) ?_ (by assumption) ?_
 rotate_left
 ·intro w hSw;(try dsimp only at hSw);go_simp;(all_goals with_reducible rfl)
 simp only [Act.put,sA,sB,sC]
 refine tk 12 ⟨some 15,_,_,_,_,_⟩ ?_ rfl (by kernel_rfl) (fun _ _ _ h=>h) (by rfl) ?_ (by assumption) ?_
 rotate_left
 ·intro w hSw;(try dsimp only at hSw);go_simp;(all_goals with_reducible rfl)
 simp only [Act.put,sA,sB,sC]
 refine wpAnyH_ready (rs:=[13]) (by kernel_rfl) (by simp) ?_
 refine AllReadyH.cons (o:=⟨some 16,_,_,_,_,_⟩) rfl (fun K hK=>?_) AllReadyH.nil
 go_simp
 refine(mSize_any _ _ _ _ _ _ a b c e).mono ?_;rintro e2 wy ⟨rfl,ky⟩;have sz:=keep5 ky (by assumption)
 go_wp2_with fail
 refine hK.out _ _ ?_ (fun hHeld=>?_)
 ·(try dsimp only);(first | assumption | exact s1)
 clear hK K
 try simp only [Act.put,sA,sB,sC]
 refine tk 14 ⟨some 17,_,_,_,_,_⟩ ?_ rfl (by kernel_rfl) (fun _ _ _ h=>h) (by rfl) ?_ (by assumption) ?_
 rotate_left
 ·intro w hSw;(try dsimp only at hSw);go_simp;(all_goals with_reducible rfl)
 simp only [Act.put,sA,sB,sC]
 refine tk 15 ⟨some 18,_,_,_,_,_⟩ ?_ rfl (by kernel_rfl) (fun _ _ _ h=>h) (by rfl) ?_ (by assumption) ?_
 rotate_left
 ·intro w hSw;(try dsimp only at hSw);go_simp;(all_goals with_reducible rfl)
 simp only [Act.put,sA,sB,sC]
 refine tk 16 ⟨some 19,_,_,_,_,_⟩ ?_ rfl (by kernel_rfl) (fun _ _ _ h=>h) (by rfl) ?_ (by assumption) ?_
 rotate_left
 ·intro w hSw;(try dsimp only at hSw);go_simp;(all_goals with_reducible rfl)
 simp only [Act.put,sA,sB,sC]
 refine tn 17 ⟨some 20,_,_,_,_,_⟩ rfl (by kernel_rfl) (fun _ _ _ h=>h) (by rfl) (by assumption) ?_
 simp only [Act.put,sA,sB,sC]
 refine tn 18 ⟨some 21,_,_,_,_,_⟩ rfl (by kernel_rfl) (fun _ _ _ h=>h) (by rfl) (by assumption) ?_
 simp only [Act.put,sA,sB,sC]
 refine wpAnyH_ready (rs:=[19]) (by kernel_rfl) (by simp) ?_
 refine AllReadyH.cons (o:=⟨some 22,_,_,_,_,_⟩) rfl (fun K hK=>?_) AllReadyH.nil
 go_simp
 refine hK.out _ _ ?_ (fun hHeld=>?_)
 ·(try dsimp only);(first | assumption | exact s1)
 clear hK K
 try simp only [Act.put,sA,sB,sC]
 refine tk 20 ⟨some 23,_,_,_,_,_⟩ ?_ rfl (by kernel_rfl) (fun _ _ _ h=>h) (by rfl) ?_ (by assumption) ?_
 rotate_left
 ·intro w hSw;(try dsimp only at hSw);go_simp;(all_goals with_reducible rfl)
 simp only [Act.put,sA,sB,sC]
 refine tk 21 ⟨some 24,_,_,_,_,_⟩ ?_ rfl (by kernel_rfl) (fun _ _ _ h=>h) (by rfl) ?_ (by assumption) ?_
 rotate_left
 ·intro w hSw;(try dsimp only at hSw);go_simp;(all_goals with_reducible rfl)
 simp only [Act.put,sA,sB,sC]
 refine tn 22 ⟨some 25,_,_,_,_,_⟩ rfl (by kernel_rfl) (fun _ _ _ h=>h) (by rfl) (by assumption) ?_
 simp only [Act.put,sA,sB,sC]
 refine tn 23 ⟨some 26,_,_,_,_,_⟩ rfl (by kernel_rfl) (fun _ _ _ h=>h) (by rfl) (by assumption) ?_
 simp only [Act.put,sA,sB,sC]
 refine tn 24 ⟨some 27,_,_,_,_,_⟩ rfl (by kernel_rfl) (fun _ _ _ h=>h) (by rfl) (by assumption) ?_
 simp only [Act.put,sA,sB,sC]
 refine wpAnyH_ready (rs:=[25]) (by kernel_rfl) (by simp) ?_
 refine AllReadyH.cons (o:=⟨some 28,_,_,_,_,_⟩) rfl (fun K hK=>?_) AllReadyH.nil
 go_simp
 refine hK.out _ _ ?_ (fun hHeld=>?_)
 ·(try dsimp only);(first | assumption | exact s1)
 clear hK K
 try simp only [Act.put,sA,sB,sC]
 refine tk 26 ⟨some 29,_,_,_,_,_⟩ ?_ rfl (by kernel_rfl) (fun _ _ _ h=>h) (by rfl) ?_ (by assumption) ?_
 rotate_left
 ·intro w hSw;(try dsimp only at hSw);go_simp;(all_goals with_reducible rfl)
 simp only [Act.put,sA,sB,sC]
 refine tk 27 ⟨some 30,_,_,_,_,_⟩ ?_ rfl (by kernel_rfl) (fun _ _ _ h=>h) (by rfl) ?_ (by assumption) ?_
 rotate_left
 ·intro w hSw;(try dsimp only at hSw);go_simp;(all_goals with_reducible rfl)
 simp only [Act.put,sA,sB,sC]
 refine tn 28 ⟨some 31,_,_,_,_,_⟩ rfl (by kernel_rfl) (fun _ _ _ h=>h) (by rfl) (by assumption) ?_
 simp only [Act.put,sA,sB,sC]
 refine tn 29 ⟨some 32,_,_,_,_,_⟩ rfl (by kernel_rfl) (fun _ _ _ h=>h) (by rfl) (by assumption) ?_
 simp only [Act.put,sA,sB,sC]
 refine tn 30 ⟨some 33,_,_,_,_,_⟩ rfl (by kernel_rfl) (fun _ _ _ h=>h) (by rfl) (by assumption) ?_
 simp only [Act.put,sA,sB,sC]
 refine wpAnyH_ready (rs:=[31]) (by kernel_rfl) (by simp) ?_
 refine AllReadyH.cons (o:=⟨some 34,_,_,_,_,_⟩) rfl (fun K hK=>?_) AllReadyH.nil
 go_simp
 refine hK.out _ _ ?_ (fun hHeld=>?_)
 ·(try dsimp only);(first | assumption | exact s1)
 clear hK K
 try simp only [Act.put,sA,sB,sC]
 refine tk 32 ⟨some 35,_,_,_,_,_⟩ ?_ rfl (by kernel_rfl) (fun _ _ _ h=>h) (by rfl) ?_ (by assumption) ?_
 rotate_left
 ·intro w hSw;(try dsimp only at hSw);go_simp;(all_goals with_reducible rfl)
 simp only [Act.put,sA,sB,sC]
 refine wpAnyH_ready (rs:=[33]) (by kernel_rfl) (by simp) ?_
 refine AllReadyH.cons (o:=⟨some 2,_,_,_,_,_⟩) rfl (fun K hK=>?_) AllReadyH.nil
 go_simp
 refine hK.out _ _ ?_ (fun hHeld=>?_)
 ·(try dsimp only);(first | assumption | exact s1)
 clear hK K
 try simp only [Act.put,sA,sB,sC]
 refine wpAnyH_done (by kernel_rfl) ?_ _
 go_wp2_with fail
 go_ret
 exact⟨rfl,sz.2.2.2.2.2⟩
set_option maxHeartbeats 4000000 in
theorem mGood_no4 (W H:Int) (At Ar Ad:Option Addr) (nt ct nr cr nd cd:Nat) (lt lr ld:List Int) (w:World) (hL:Lists w (.slice At nt ct) (.slice Ar nr cr) (.slice Ad nd cd) lt lr ld) (h:sideB W=true) (h':sideB H=true) (hn:(nt:Int)=W*H) (h4:lt.all terrB=false) :
  Calls Tryz.prog 179 #[mp W H (.slice At nt ct) (.slice Ar nr cr) (.slice Ad nd cd)] w fun e w'=>e=.returned (.bool false)∧Kp w w':=by
 have s0:=new5 w (.int .i64 W) (.int .i64 H) (.slice At nt ct) (.slice Ar nr cr) (.slice Ad nd cd) 45
 obtain⟨a,b⟩:=sideB_true h
 obtain⟨c,e⟩:=sideB_true h'
 have HL:=Lib.hid hL
 clear hL
 have hne:((nt:Int) == W*H)=true:=by simpa using hn
 clear hn
 go_enter Tryz.func179,Tryz.ntmps179
 go_wp2_with fail
 generalize w.alloc (.cells #[.int .i64 W,.int .i64 H,.slice At nt ct,.slice Ar nr cr,.slice Ad nd cd] 45)=W0 at *
 have s1:=drew5 s0
 refine wp_region_held_drew (S:=(fun w'=>cb5 w' (w.heap.size) (.int .i64 W) (.int .i64 H) (.slice At nt ct) (.slice Ar nr cr) (.slice Ad nd cd) (Kp w w'))) (by kernel_rfl) ?_ (fun hHeld=>?_)
 ·exact s1
 refine tk 0 ⟨some 3,_,_,_,_,_⟩ ?_ rfl (by kernel_rfl) (fun _ _ _ h=>h) (by rfl) ?_ (by assumption) ?_
 rotate_left
 ·intro w hSw;(try dsimp only at hSw);go_simp;(all_goals with_reducible rfl)
 simp only [Act.put,sA,sB,sC]
 refine tk 1 ⟨some 4,_,_,_,_,_⟩ ?_ rfl (by kernel_rfl) (fun _ _ _ h=>h) (by rfl) ?_ (by assumption) ?_
 rotate_left
 ·intro w hSw;(try dsimp only at hSw);go_simp;(all_goals with_reducible rfl)
 simp only [Act.put,sA,sB,sC]
 refine wpAnyH_ready (rs:=[2]) (by kernel_rfl) (by simp) ?_
 refine AllReadyH.cons (o:=⟨some 5,_,_,_,_,_⟩) rfl (fun K hK=>?_) AllReadyH.nil
 go_simp
 refine(l1In_side _ _).mono ?_;rintro e1 wz ⟨rfl,rfl⟩
 go_wp2_with fail
 refine hK.out _ _ ?_ (fun hHeld=>?_)
 ·(try dsimp only);(first | assumption | exact s1)
 clear hK K
 try simp only [Act.put,sA,sB,sC]
 refine tk 3 ⟨some 6,_,_,_,_,_⟩ ?_ rfl (by kernel_rfl) (fun _ _ _ h=>h) (by rfl) ?_ (by assumption) ?_
 rotate_left
 ·intro w hSw;(try dsimp only at hSw);go_simp;(all_goals with_reducible rfl)
 simp only [Act.put,sA,sB,sC]
 refine tk 4 ⟨some 7,_,_,_,_,_⟩ ?_ rfl (by kernel_rfl) (fun _ _ _ h=>h) (by rfl) ?_ (by assumption) ?_
 rotate_left
 ·intro w hSw;(try dsimp only at hSw);go_simp;(all_goals with_reducible rfl)
 simp only [Act.put,sA,sB,sC]
 refine tk 5 ⟨some 8,_,_,_,_,_⟩ ?_ rfl (by kernel_rfl) (fun _ _ _ h=>h) (by rfl) ?_ (by assumption) ?_
 rotate_left
 ·intro w hSw;(try dsimp only at hSw);go_simp;(all_goals with_reducible rfl)
 simp only [Act.put,sA,sB,sC]
 refine wpAnyH_ready (rs:=[6]) (by kernel_rfl) (by simp) ?_
 refine AllReadyH.cons (o:=⟨some 9,_,_,_,_,_⟩) rfl (fun K hK=>?_) AllReadyH.nil
 go_simp
 refine(l1In_side _ _).mono ?_;rintro e1 wz ⟨rfl,rfl⟩
 go_wp2_with fail
 refine hK.out _ _ ?_ (fun hHeld=>?_)
 ·(try dsimp only);(first | assumption | exact s1)
 clear hK K
 try simp only [Act.put,sA,sB,sC]
 refine tk 7 ⟨some 10,_,_,_,_,_⟩ ?_ rfl (by kernel_rfl) (fun _ _ _ h=>h) (by rfl) ?_ (by assumption) ?_
 rotate_left
 ·intro w hSw;(try dsimp only at hSw);go_simp;(all_goals with_reducible rfl)
 simp only [Act.put,sA,sB,sC]
 refine tk 8 ⟨some 11,_,_,_,_,_⟩ ?_ rfl (by kernel_rfl) (fun _ _ _ h=>h) (by rfl) ?_ (by assumption) ?_
 rotate_left
 ·intro w hSw;(try dsimp only at hSw);go_simp;(all_goals with_reducible rfl)
 simp only [Act.put,sA,sB,sC]
 refine tk 9 ⟨some 12,_,_,_,_,_⟩ ?_ rfl (by kernel_rfl) (fun _ _ _ h=>h) (by rfl) ?_ (by assumption) ?_
 rotate_left
 ·intro w hSw;(try dsimp only at hSw);go_simp;(all_goals with_reducible rfl)
 simp only [Act.put,sA,sB,sC]
 refine tk 10 ⟨some 13,_,_,_,_,_⟩ ?_ rfl (by kernel_rfl) (fun _ _ _ h=>h) (by rfl) ?_ (by assumption) ?_
 rotate_left
 ·intro w hSw;(try dsimp only at hSw);go_simp;(all_goals with_reducible rfl)
 simp only [Act.put,sA,sB,sC]
 refine tk 11 ⟨some 14,_,_,_,_,_⟩ ?_ rfl (by kernel_rfl) (fun _ _ _ h=>h) (by rfl) ?_ (by assumption) ?_
 rotate_left
 ·intro w hSw;(try dsimp only at hSw);go_simp;(all_goals with_reducible rfl)
 simp only [Act.put,sA,sB,sC]
 refine tk 12 ⟨some 15,_,_,_,_,_⟩ ?_ rfl (by kernel_rfl) (fun _ _ _ h=>h) (by rfl) ?_ (by assumption) ?_
 rotate_left
 ·intro w hSw;(try dsimp only at hSw);go_simp;(all_goals with_reducible rfl)
 simp only [Act.put,sA,sB,sC]
 refine wpAnyH_ready (rs:=[13]) (by kernel_rfl) (by simp) ?_
 refine AllReadyH.cons (o:=⟨some 16,_,_,_,_,_⟩) rfl (fun K hK=>?_) AllReadyH.nil
 go_simp
 refine(mSize_any _ _ _ _ _ _ a b c e).mono ?_;rintro e2 wy ⟨rfl,ky⟩;have sz:=keep5 ky (by assumption)
 go_wp2_with fail
 refine hK.out _ _ ?_ (fun hHeld=>?_)
 ·(try dsimp only);(first | assumption | exact s1)
 clear hK K
 try simp only [Act.put,sA,sB,sC]
 refine tk 14 ⟨some 17,_,_,_,_,_⟩ ?_ rfl (by kernel_rfl) (fun _ _ _ h=>h) (by rfl) ?_ (by assumption) ?_
 rotate_left
 ·intro w hSw;(try dsimp only at hSw);go_simp;(all_goals with_reducible rfl)
 simp only [Act.put,sA,sB,sC]
 refine tk 15 ⟨some 18,_,_,_,_,_⟩ ?_ rfl (by kernel_rfl) (fun _ _ _ h=>h) (by rfl) ?_ (by assumption) ?_
 rotate_left
 ·intro w hSw;(try dsimp only at hSw);go_simp;(all_goals with_reducible rfl)
 simp only [Act.put,sA,sB,sC]
 refine tk 16 ⟨some 19,_,_,_,_,_⟩ ?_ rfl (by kernel_rfl) (fun _ _ _ h=>h) (by rfl) ?_ (by assumption) ?_
 rotate_left
 ·intro w hSw;(try dsimp only at hSw);go_simp;(all_goals with_reducible rfl)
 simp only [Act.put,sA,sB,sC]
 refine tk 17 ⟨some 20,_,_,_,_,_⟩ ?_ rfl (by kernel_rfl) (fun _ _ _ h=>h) (by rfl) ?_ (by assumption) ?_
 rotate_left
 ·intro w hSw;(try dsimp only at hSw);go_simp;(all_goals with_reducible rfl)
 simp only [Act.put,sA,sB,sC]
 refine tk 18 ⟨some 21,_,_,_,_,_⟩ ?_ rfl (by kernel_rfl) (fun _ _ _ h=>h) (by rfl) ?_ (by assumption) ?_
 rotate_left
 ·intro w hSw;(try dsimp only at hSw);go_simp;(all_goals with_reducible rfl)
 simp only [Act.put,sA,sB,sC]
 refine wpAnyH_ready (rs:=[19]) (by kernel_rfl) (by simp) ?_
 refine AllReadyH.cons (o:=⟨some 22,_,_,_,_,_⟩) rfl (fun K hK=>?_) AllReadyH.nil
 go_simp
 refine(l1All_terr _ lt _ (HL.out.k5 sz).rt HL.out.bt).mono ?_;rintro e3 wx ⟨rfl,rfl⟩
 go_wp2_with fail
 refine hK.out _ _ ?_ (fun hHeld=>?_)
 ·(try dsimp only);(first | assumption | exact s1)
 clear hK K
 try simp only [Act.put,sA,sB,sC]
 refine tk 20 ⟨some 23,_,_,_,_,_⟩ ?_ rfl (by kernel_rfl) (fun _ _ _ h=>h) (by rfl) ?_ (by assumption) ?_
 rotate_left
 ·intro w hSw;(try dsimp only at hSw);go_simp;(all_goals with_reducible rfl)
 simp only [Act.put,sA,sB,sC]
 refine tk 21 ⟨some 24,_,_,_,_,_⟩ ?_ rfl (by kernel_rfl) (fun _ _ _ h=>h) (by rfl) ?_ (by assumption) ?_
 rotate_left
 ·intro w hSw;(try dsimp only at hSw);go_simp;(all_goals with_reducible rfl)
 simp only [Act.put,sA,sB,sC]
 refine tn 22 ⟨some 25,_,_,_,_,_⟩ rfl (by kernel_rfl) (fun _ _ _ h=>h) (by rfl) (by assumption) ?_
 simp only [Act.put,sA,sB,sC]
 refine tn 23 ⟨some 26,_,_,_,_,_⟩ rfl (by kernel_rfl) (fun _ _ _ h=>h) (by rfl) (by assumption) ?_
 simp only [Act.put,sA,sB,sC]
 refine tn 24 ⟨some 27,_,_,_,_,_⟩ rfl (by kernel_rfl) (fun _ _ _ h=>h) (by rfl) (by assumption) ?_
 simp only [Act.put,sA,sB,sC]
 refine wpAnyH_ready (rs:=[25]) (by kernel_rfl) (by simp) ?_
 refine AllReadyH.cons (o:=⟨some 28,_,_,_,_,_⟩) rfl (fun K hK=>?_) AllReadyH.nil
 go_simp
 refine hK.out _ _ ?_ (fun hHeld=>?_)
 ·(try dsimp only);(first | assumption | exact s1)
 clear hK K
 try simp only [Act.put,sA,sB,sC]
 refine tk 26 ⟨some 29,_,_,_,_,_⟩ ?_ rfl (by kernel_rfl) (fun _ _ _ h=>h) (by rfl) ?_ (by assumption) ?_
 rotate_left
 ·intro w hSw;(try dsimp only at hSw);go_simp;(all_goals with_reducible rfl)
 simp only [Act.put,sA,sB,sC]
 refine tk 27 ⟨some 30,_,_,_,_,_⟩ ?_ rfl (by kernel_rfl) (fun _ _ _ h=>h) (by rfl) ?_ (by assumption) ?_
 rotate_left
 ·intro w hSw;(try dsimp only at hSw);go_simp;(all_goals with_reducible rfl)
 simp only [Act.put,sA,sB,sC]
 refine tn 28 ⟨some 31,_,_,_,_,_⟩ rfl (by kernel_rfl) (fun _ _ _ h=>h) (by rfl) (by assumption) ?_
 simp only [Act.put,sA,sB,sC]
 refine tn 29 ⟨some 32,_,_,_,_,_⟩ rfl (by kernel_rfl) (fun _ _ _ h=>h) (by rfl) (by assumption) ?_
 simp only [Act.put,sA,sB,sC]
 refine tn 30 ⟨some 33,_,_,_,_,_⟩ rfl (by kernel_rfl) (fun _ _ _ h=>h) (by rfl) (by assumption) ?_
 simp only [Act.put,sA,sB,sC]
 refine wpAnyH_ready (rs:=[31]) (by kernel_rfl) (by simp) ?_
 refine AllReadyH.cons (o:=⟨some 34,_,_,_,_,_⟩) rfl (fun K hK=>?_) AllReadyH.nil
 go_simp
 refine hK.out _ _ ?_ (fun hHeld=>?_)
 ·(try dsimp only);(first | assumption | exact s1)
 clear hK K
 try simp only [Act.put,sA,sB,sC]
 refine tk 32 ⟨some 35,_,_,_,_,_⟩ ?_ rfl (by kernel_rfl) (fun _ _ _ h=>h) (by rfl) ?_ (by assumption) ?_
 rotate_left
 ·intro w hSw;(try dsimp only at hSw);go_simp;(all_goals with_reducible rfl)
 simp only [Act.put,sA,sB,sC]
 refine wpAnyH_ready (rs:=[33]) (by kernel_rfl) (by simp) ?_
 refine AllReadyH.cons (o:=⟨some 2,_,_,_,_,_⟩) rfl (fun K hK=>?_) AllReadyH.nil
 go_simp
 refine hK.out _ _ ?_ (fun hHeld=>?_)
 ·(try dsimp only);(first | assumption | exact s1)
 clear hK K
 try simp only [Act.put,sA,sB,sC]
 refine wpAnyH_done (by kernel_rfl) ?_ _
 go_wp2_with fail
 go_ret
 exact⟨rfl,sz.2.2.2.2.2⟩
set_option maxHeartbeats 4000000 in
theorem mGood_no5 (W H:Int) (At Ar Ad:Option Addr) (nt ct nr cr nd cd:Nat) (lt lr ld:List Int) (w:World) (hL:Lists w (.slice At nt ct) (.slice Ar nr cr) (.slice Ad nd cd) lt lr ld) (h:sideB W=true) (h':sideB H=true) (hn:(nt:Int)=W*H) (h4:lt.all terrB=true) (h5:edgesOk W H lr=false) :
  Calls Tryz.prog 179 #[mp W H (.slice At nt ct) (.slice Ar nr cr) (.slice Ad nd cd)] w fun e w'=>e=.returned (.bool false)∧Kp w w':=by
 have s0:=new5 w (.int .i64 W) (.int .i64 H) (.slice At nt ct) (.slice Ar nr cr) (.slice Ad nd cd) 45
 obtain⟨a,b⟩:=sideB_true h
 obtain⟨c,e⟩:=sideB_true h'
 have HL:=Lib.hid hL
 clear hL
 have hne:((nt:Int) == W*H)=true:=by simpa using hn
 clear hn
 go_enter Tryz.func179,Tryz.ntmps179
 go_wp2_with fail
 generalize w.alloc (.cells #[.int .i64 W,.int .i64 H,.slice At nt ct,.slice Ar nr cr,.slice Ad nd cd] 45)=W0 at *
 have s1:=drew5 s0
 refine wp_region_held_drew (S:=(fun w'=>cb5 w' (w.heap.size) (.int .i64 W) (.int .i64 H) (.slice At nt ct) (.slice Ar nr cr) (.slice Ad nd cd) (Kp w w'))) (by kernel_rfl) ?_ (fun hHeld=>?_)
 ·exact s1
 refine tk 0 ⟨some 3,_,_,_,_,_⟩ ?_ rfl (by kernel_rfl) (fun _ _ _ h=>h) (by rfl) ?_ (by assumption) ?_
 rotate_left
 ·intro w hSw;(try dsimp only at hSw);go_simp;(all_goals with_reducible rfl)
 simp only [Act.put,sA,sB,sC]
 refine tk 1 ⟨some 4,_,_,_,_,_⟩ ?_ rfl (by kernel_rfl) (fun _ _ _ h=>h) (by rfl) ?_ (by assumption) ?_
 rotate_left
 ·intro w hSw;(try dsimp only at hSw);go_simp;(all_goals with_reducible rfl)
 simp only [Act.put,sA,sB,sC]
 refine wpAnyH_ready (rs:=[2]) (by kernel_rfl) (by simp) ?_
 refine AllReadyH.cons (o:=⟨some 5,_,_,_,_,_⟩) rfl (fun K hK=>?_) AllReadyH.nil
 go_simp
 refine(l1In_side _ _).mono ?_;rintro e1 wz ⟨rfl,rfl⟩
 go_wp2_with fail
 refine hK.out _ _ ?_ (fun hHeld=>?_)
 ·(try dsimp only);(first | assumption | exact s1)
 clear hK K
 try simp only [Act.put,sA,sB,sC]
 refine tk 3 ⟨some 6,_,_,_,_,_⟩ ?_ rfl (by kernel_rfl) (fun _ _ _ h=>h) (by rfl) ?_ (by assumption) ?_
 rotate_left
 ·intro w hSw;(try dsimp only at hSw);go_simp;(all_goals with_reducible rfl)
 simp only [Act.put,sA,sB,sC]
 refine tk 4 ⟨some 7,_,_,_,_,_⟩ ?_ rfl (by kernel_rfl) (fun _ _ _ h=>h) (by rfl) ?_ (by assumption) ?_
 rotate_left
 ·intro w hSw;(try dsimp only at hSw);go_simp;(all_goals with_reducible rfl)
 simp only [Act.put,sA,sB,sC]
 refine tk 5 ⟨some 8,_,_,_,_,_⟩ ?_ rfl (by kernel_rfl) (fun _ _ _ h=>h) (by rfl) ?_ (by assumption) ?_
 rotate_left
 ·intro w hSw;(try dsimp only at hSw);go_simp;(all_goals with_reducible rfl)
 simp only [Act.put,sA,sB,sC]
 refine wpAnyH_ready (rs:=[6]) (by kernel_rfl) (by simp) ?_
 refine AllReadyH.cons (o:=⟨some 9,_,_,_,_,_⟩) rfl (fun K hK=>?_) AllReadyH.nil
 go_simp
 refine(l1In_side _ _).mono ?_;rintro e1 wz ⟨rfl,rfl⟩
 go_wp2_with fail
 refine hK.out _ _ ?_ (fun hHeld=>?_)
 ·(try dsimp only);(first | assumption | exact s1)
 clear hK K
 try simp only [Act.put,sA,sB,sC]
 refine tk 7 ⟨some 10,_,_,_,_,_⟩ ?_ rfl (by kernel_rfl) (fun _ _ _ h=>h) (by rfl) ?_ (by assumption) ?_
 rotate_left
 ·intro w hSw;(try dsimp only at hSw);go_simp;(all_goals with_reducible rfl)
 simp only [Act.put,sA,sB,sC]
 refine tk 8 ⟨some 11,_,_,_,_,_⟩ ?_ rfl (by kernel_rfl) (fun _ _ _ h=>h) (by rfl) ?_ (by assumption) ?_
 rotate_left
 ·intro w hSw;(try dsimp only at hSw);go_simp;(all_goals with_reducible rfl)
 simp only [Act.put,sA,sB,sC]
 refine tk 9 ⟨some 12,_,_,_,_,_⟩ ?_ rfl (by kernel_rfl) (fun _ _ _ h=>h) (by rfl) ?_ (by assumption) ?_
 rotate_left
 ·intro w hSw;(try dsimp only at hSw);go_simp;(all_goals with_reducible rfl)
 simp only [Act.put,sA,sB,sC]
 refine tk 10 ⟨some 13,_,_,_,_,_⟩ ?_ rfl (by kernel_rfl) (fun _ _ _ h=>h) (by rfl) ?_ (by assumption) ?_
 rotate_left
 ·intro w hSw;(try dsimp only at hSw);go_simp;(all_goals with_reducible rfl)
 simp only [Act.put,sA,sB,sC]
 refine tk 11 ⟨some 14,_,_,_,_,_⟩ ?_ rfl (by kernel_rfl) (fun _ _ _ h=>h) (by rfl) ?_ (by assumption) ?_
 rotate_left
 ·intro w hSw;(try dsimp only at hSw);go_simp;(all_goals with_reducible rfl)
 simp only [Act.put,sA,sB,sC]
 refine tk 12 ⟨some 15,_,_,_,_,_⟩ ?_ rfl (by kernel_rfl) (fun _ _ _ h=>h) (by rfl) ?_ (by assumption) ?_
 rotate_left
 ·intro w hSw;(try dsimp only at hSw);go_simp;(all_goals with_reducible rfl)
 simp only [Act.put,sA,sB,sC]
 refine wpAnyH_ready (rs:=[13]) (by kernel_rfl) (by simp) ?_
 refine AllReadyH.cons (o:=⟨some 16,_,_,_,_,_⟩) rfl (fun K hK=>?_) AllReadyH.nil
 go_simp
 refine(mSize_any _ _ _ _ _ _ a b c e).mono ?_;rintro e2 wy ⟨rfl,ky⟩;have sz:=keep5 ky (by assumption)
 go_wp2_with fail
 refine hK.out _ _ ?_ (fun hHeld=>?_)
 ·(try dsimp only);(first | assumption | exact s1)
 clear hK K
 try simp only [Act.put,sA,sB,sC]
 refine tk 14 ⟨some 17,_,_,_,_,_⟩ ?_ rfl (by kernel_rfl) (fun _ _ _ h=>h) (by rfl) ?_ (by assumption) ?_
 rotate_left
 ·intro w hSw;(try dsimp only at hSw);go_simp;(all_goals with_reducible rfl)
 simp only [Act.put,sA,sB,sC]
 refine tk 15 ⟨some 18,_,_,_,_,_⟩ ?_ rfl (by kernel_rfl) (fun _ _ _ h=>h) (by rfl) ?_ (by assumption) ?_
 rotate_left
 ·intro w hSw;(try dsimp only at hSw);go_simp;(all_goals with_reducible rfl)
 simp only [Act.put,sA,sB,sC]
 refine tk 16 ⟨some 19,_,_,_,_,_⟩ ?_ rfl (by kernel_rfl) (fun _ _ _ h=>h) (by rfl) ?_ (by assumption) ?_
 rotate_left
 ·intro w hSw;(try dsimp only at hSw);go_simp;(all_goals with_reducible rfl)
 simp only [Act.put,sA,sB,sC]
 refine tk 17 ⟨some 20,_,_,_,_,_⟩ ?_ rfl (by kernel_rfl) (fun _ _ _ h=>h) (by rfl) ?_ (by assumption) ?_
 rotate_left
 ·intro w hSw;(try dsimp only at hSw);go_simp;(all_goals with_reducible rfl)
 simp only [Act.put,sA,sB,sC]
 refine tk 18 ⟨some 21,_,_,_,_,_⟩ ?_ rfl (by kernel_rfl) (fun _ _ _ h=>h) (by rfl) ?_ (by assumption) ?_
 rotate_left
 ·intro w hSw;(try dsimp only at hSw);go_simp;(all_goals with_reducible rfl)
 simp only [Act.put,sA,sB,sC]
 refine wpAnyH_ready (rs:=[19]) (by kernel_rfl) (by simp) ?_
 refine AllReadyH.cons (o:=⟨some 22,_,_,_,_,_⟩) rfl (fun K hK=>?_) AllReadyH.nil
 go_simp
 refine(l1All_terr _ lt _ (HL.out.k5 sz).rt HL.out.bt).mono ?_;rintro e3 wx ⟨rfl,rfl⟩
 go_wp2_with fail
 refine hK.out _ _ ?_ (fun hHeld=>?_)
 ·(try dsimp only);(first | assumption | exact s1)
 clear hK K
 try simp only [Act.put,sA,sB,sC]
 refine tk 20 ⟨some 23,_,_,_,_,_⟩ ?_ rfl (by kernel_rfl) (fun _ _ _ h=>h) (by rfl) ?_ (by assumption) ?_
 rotate_left
 ·intro w hSw;(try dsimp only at hSw);go_simp;(all_goals with_reducible rfl)
 simp only [Act.put,sA,sB,sC]
 refine tk 21 ⟨some 24,_,_,_,_,_⟩ ?_ rfl (by kernel_rfl) (fun _ _ _ h=>h) (by rfl) ?_ (by assumption) ?_
 rotate_left
 ·intro w hSw;(try dsimp only at hSw);go_simp;(all_goals with_reducible rfl)
 simp only [Act.put,sA,sB,sC]
 refine tk 22 ⟨some 25,_,_,_,_,_⟩ ?_ rfl (by kernel_rfl) (fun _ _ _ h=>h) (by rfl) ?_ (by assumption) ?_
 rotate_left
 ·intro w hSw;(try dsimp only at hSw);go_simp;(all_goals with_reducible rfl)
 simp only [Act.put,sA,sB,sC]
 refine tk 23 ⟨some 26,_,_,_,_,_⟩ ?_ rfl (by kernel_rfl) (fun _ _ _ h=>h) (by rfl) ?_ (by assumption) ?_
 rotate_left
 ·intro w hSw;(try dsimp only at hSw);go_simp;(all_goals with_reducible rfl)
 simp only [Act.put,sA,sB,sC]
 refine tk 24 ⟨some 27,_,_,_,_,_⟩ ?_ rfl (by kernel_rfl) (fun _ _ _ h=>h) (by rfl) ?_ (by assumption) ?_
 rotate_left
 ·intro w hSw;(try dsimp only at hSw);go_simp;(all_goals with_reducible rfl)
 simp only [Act.put,sA,sB,sC]
 refine wpAnyH_ready (rs:=[25]) (by kernel_rfl) (by simp) ?_
 refine AllReadyH.cons (o:=⟨some 28,_,_,_,_,_⟩) rfl (fun K hK=>?_) AllReadyH.nil
 go_simp
 refine(mEdges_any _ _ _ _ _ (.slice Ar nr cr) lr _ a b c e (HL.out.k5 sz).rr HL.out.br).mono ?_;rintro e4 wv ⟨rfl,kv⟩;have sv:=keep5 kv sz
 go_wp2_with fail
 refine hK.out _ _ ?_ (fun hHeld=>?_)
 ·(try dsimp only);(first | assumption | exact s1)
 clear hK K
 try simp only [Act.put,sA,sB,sC]
 refine tk 26 ⟨some 29,_,_,_,_,_⟩ ?_ rfl (by kernel_rfl) (fun _ _ _ h=>h) (by rfl) ?_ (by assumption) ?_
 rotate_left
 ·intro w hSw;(try dsimp only at hSw);go_simp;(all_goals with_reducible rfl)
 simp only [Act.put,sA,sB,sC]
 refine tk 27 ⟨some 30,_,_,_,_,_⟩ ?_ rfl (by kernel_rfl) (fun _ _ _ h=>h) (by rfl) ?_ (by assumption) ?_
 rotate_left
 ·intro w hSw;(try dsimp only at hSw);go_simp;(all_goals with_reducible rfl)
 simp only [Act.put,sA,sB,sC]
 refine tn 28 ⟨some 31,_,_,_,_,_⟩ rfl (by kernel_rfl) (fun _ _ _ h=>h) (by rfl) (by assumption) ?_
 simp only [Act.put,sA,sB,sC]
 refine tn 29 ⟨some 32,_,_,_,_,_⟩ rfl (by kernel_rfl) (fun _ _ _ h=>h) (by rfl) (by assumption) ?_
 simp only [Act.put,sA,sB,sC]
 refine tn 30 ⟨some 33,_,_,_,_,_⟩ rfl (by kernel_rfl) (fun _ _ _ h=>h) (by rfl) (by assumption) ?_
 simp only [Act.put,sA,sB,sC]
 refine wpAnyH_ready (rs:=[31]) (by kernel_rfl) (by simp) ?_
 refine AllReadyH.cons (o:=⟨some 34,_,_,_,_,_⟩) rfl (fun K hK=>?_) AllReadyH.nil
 go_simp
 refine hK.out _ _ ?_ (fun hHeld=>?_)
 ·(try dsimp only);(first | assumption | exact s1)
 clear hK K
 try simp only [Act.put,sA,sB,sC]
 refine tk 32 ⟨some 35,_,_,_,_,_⟩ ?_ rfl (by kernel_rfl) (fun _ _ _ h=>h) (by rfl) ?_ (by assumption) ?_
 rotate_left
 ·intro w hSw;(try dsimp only at hSw);go_simp;(all_goals with_reducible rfl)
 simp only [Act.put,sA,sB,sC]
 refine wpAnyH_ready (rs:=[33]) (by kernel_rfl) (by simp) ?_
 refine AllReadyH.cons (o:=⟨some 2,_,_,_,_,_⟩) rfl (fun K hK=>?_) AllReadyH.nil
 go_simp
 refine hK.out _ _ ?_ (fun hHeld=>?_)
 ·(try dsimp only);(first | assumption | exact s1)
 clear hK K
 try simp only [Act.put,sA,sB,sC]
 refine wpAnyH_done (by kernel_rfl) ?_ _
 go_wp2_with fail
 go_ret
 exact⟨rfl,sv.2.2.2.2.2⟩
set_option maxHeartbeats 4000000 in
theorem mGood_yes (W H:Int) (At Ar Ad:Option Addr) (nt ct nr cr nd cd:Nat) (lt lr ld:List Int) (w:World) (hL:Lists w (.slice At nt ct) (.slice Ar nr cr) (.slice Ad nd cd) lt lr ld) (h:sideB W=true) (h':sideB H=true) (hn:(nt:Int)=W*H) (h4:lt.all terrB=true) (h5:edgesOk W H lr=true) :
  Calls Tryz.prog 179 #[mp W H (.slice At nt ct) (.slice Ar nr cr) (.slice Ad nd cd)] w fun e w'=>e=.returned (.bool (edgesOk W H ld))∧Kp w w':=by
 have s0:=new5 w (.int .i64 W) (.int .i64 H) (.slice At nt ct) (.slice Ar nr cr) (.slice Ad nd cd) 45
 obtain⟨a,b⟩:=sideB_true h
 obtain⟨c,e⟩:=sideB_true h'
 have HL:=Lib.hid hL
 clear hL
 have hne:((nt:Int) == W*H)=true:=by simpa using hn
 clear hn
 go_enter Tryz.func179,Tryz.ntmps179
 go_wp2_with fail
 generalize w.alloc (.cells #[.int .i64 W,.int .i64 H,.slice At nt ct,.slice Ar nr cr,.slice Ad nd cd] 45)=W0 at *
 have s1:=drew5 s0
 refine wp_region_held_drew (S:=(fun w'=>cb5 w' (w.heap.size) (.int .i64 W) (.int .i64 H) (.slice At nt ct) (.slice Ar nr cr) (.slice Ad nd cd) (Kp w w'))) (by kernel_rfl) ?_ (fun hHeld=>?_)
 ·exact s1
 refine tk 0 ⟨some 3,_,_,_,_,_⟩ ?_ rfl (by kernel_rfl) (fun _ _ _ h=>h) (by rfl) ?_ (by assumption) ?_
 rotate_left
 ·intro w hSw;(try dsimp only at hSw);go_simp;(all_goals with_reducible rfl)
 simp only [Act.put,sA,sB,sC]
 refine tk 1 ⟨some 4,_,_,_,_,_⟩ ?_ rfl (by kernel_rfl) (fun _ _ _ h=>h) (by rfl) ?_ (by assumption) ?_
 rotate_left
 ·intro w hSw;(try dsimp only at hSw);go_simp;(all_goals with_reducible rfl)
 simp only [Act.put,sA,sB,sC]
 refine wpAnyH_ready (rs:=[2]) (by kernel_rfl) (by simp) ?_
 refine AllReadyH.cons (o:=⟨some 5,_,_,_,_,_⟩) rfl (fun K hK=>?_) AllReadyH.nil
 go_simp
 refine(l1In_side _ _).mono ?_;rintro e1 wz ⟨rfl,rfl⟩
 go_wp2_with fail
 refine hK.out _ _ ?_ (fun hHeld=>?_)
 ·(try dsimp only);(first | assumption | exact s1)
 clear hK K
 try simp only [Act.put,sA,sB,sC]
 refine tk 3 ⟨some 6,_,_,_,_,_⟩ ?_ rfl (by kernel_rfl) (fun _ _ _ h=>h) (by rfl) ?_ (by assumption) ?_
 rotate_left
 ·intro w hSw;(try dsimp only at hSw);go_simp;(all_goals with_reducible rfl)
 simp only [Act.put,sA,sB,sC]
 refine tk 4 ⟨some 7,_,_,_,_,_⟩ ?_ rfl (by kernel_rfl) (fun _ _ _ h=>h) (by rfl) ?_ (by assumption) ?_
 rotate_left
 ·intro w hSw;(try dsimp only at hSw);go_simp;(all_goals with_reducible rfl)
 simp only [Act.put,sA,sB,sC]
 refine tk 5 ⟨some 8,_,_,_,_,_⟩ ?_ rfl (by kernel_rfl) (fun _ _ _ h=>h) (by rfl) ?_ (by assumption) ?_
 rotate_left
 ·intro w hSw;(try dsimp only at hSw);go_simp;(all_goals with_reducible rfl)
 simp only [Act.put,sA,sB,sC]
 refine wpAnyH_ready (rs:=[6]) (by kernel_rfl) (by simp) ?_
 refine AllReadyH.cons (o:=⟨some 9,_,_,_,_,_⟩) rfl (fun K hK=>?_) AllReadyH.nil
 go_simp
 refine(l1In_side _ _).mono ?_;rintro e1 wz ⟨rfl,rfl⟩
 go_wp2_with fail
 refine hK.out _ _ ?_ (fun hHeld=>?_)
 ·(try dsimp only);(first | assumption | exact s1)
 clear hK K
 try simp only [Act.put,sA,sB,sC]
 refine tk 7 ⟨some 10,_,_,_,_,_⟩ ?_ rfl (by kernel_rfl) (fun _ _ _ h=>h) (by rfl) ?_ (by assumption) ?_
 rotate_left
 ·intro w hSw;(try dsimp only at hSw);go_simp;(all_goals with_reducible rfl)
 simp only [Act.put,sA,sB,sC]
 refine tk 8 ⟨some 11,_,_,_,_,_⟩ ?_ rfl (by kernel_rfl) (fun _ _ _ h=>h) (by rfl) ?_ (by assumption) ?_
 rotate_left
 ·intro w hSw;(try dsimp only at hSw);go_simp;(all_goals with_reducible rfl)
 simp only [Act.put,sA,sB,sC]
 refine tk 9 ⟨some 12,_,_,_,_,_⟩ ?_ rfl (by kernel_rfl) (fun _ _ _ h=>h) (by rfl) ?_ (by assumption) ?_
 rotate_left
 ·intro w hSw;(try dsimp only at hSw);go_simp;(all_goals with_reducible rfl)
 simp only [Act.put,sA,sB,sC]
 refine tk 10 ⟨some 13,_,_,_,_,_⟩ ?_ rfl (by kernel_rfl) (fun _ _ _ h=>h) (by rfl) ?_ (by assumption) ?_
 rotate_left
 ·intro w hSw;(try dsimp only at hSw);go_simp;(all_goals with_reducible rfl)
 simp only [Act.put,sA,sB,sC]
 refine tk 11 ⟨some 14,_,_,_,_,_⟩ ?_ rfl (by kernel_rfl) (fun _ _ _ h=>h) (by rfl) ?_ (by assumption) ?_
 rotate_left
 ·intro w hSw;(try dsimp only at hSw);go_simp;(all_goals with_reducible rfl)
 simp only [Act.put,sA,sB,sC]
 refine tk 12 ⟨some 15,_,_,_,_,_⟩ ?_ rfl (by kernel_rfl) (fun _ _ _ h=>h) (by rfl) ?_ (by assumption) ?_
 rotate_left
 ·intro w hSw;(try dsimp only at hSw);go_simp;(all_goals with_reducible rfl)
 simp only [Act.put,sA,sB,sC]
 refine wpAnyH_ready (rs:=[13]) (by kernel_rfl) (by simp) ?_
 refine AllReadyH.cons (o:=⟨some 16,_,_,_,_,_⟩) rfl (fun K hK=>?_) AllReadyH.nil
 go_simp
 refine(mSize_any _ _ _ _ _ _ a b c e).mono ?_;rintro e2 wy ⟨rfl,ky⟩;have sz:=keep5 ky (by assumption)
 go_wp2_with fail
 refine hK.out _ _ ?_ (fun hHeld=>?_)
 ·(try dsimp only);(first | assumption | exact s1)
 clear hK K
 try simp only [Act.put,sA,sB,sC]
 refine tk 14 ⟨some 17,_,_,_,_,_⟩ ?_ rfl (by kernel_rfl) (fun _ _ _ h=>h) (by rfl) ?_ (by assumption) ?_
 rotate_left
 ·intro w hSw;(try dsimp only at hSw);go_simp;(all_goals with_reducible rfl)
 simp only [Act.put,sA,sB,sC]
 refine tk 15 ⟨some 18,_,_,_,_,_⟩ ?_ rfl (by kernel_rfl) (fun _ _ _ h=>h) (by rfl) ?_ (by assumption) ?_
 rotate_left
 ·intro w hSw;(try dsimp only at hSw);go_simp;(all_goals with_reducible rfl)
 simp only [Act.put,sA,sB,sC]
 refine tk 16 ⟨some 19,_,_,_,_,_⟩ ?_ rfl (by kernel_rfl) (fun _ _ _ h=>h) (by rfl) ?_ (by assumption) ?_
 rotate_left
 ·intro w hSw;(try dsimp only at hSw);go_simp;(all_goals with_reducible rfl)
 simp only [Act.put,sA,sB,sC]
 refine tk 17 ⟨some 20,_,_,_,_,_⟩ ?_ rfl (by kernel_rfl) (fun _ _ _ h=>h) (by rfl) ?_ (by assumption) ?_
 rotate_left
 ·intro w hSw;(try dsimp only at hSw);go_simp;(all_goals with_reducible rfl)
 simp only [Act.put,sA,sB,sC]
 refine tk 18 ⟨some 21,_,_,_,_,_⟩ ?_ rfl (by kernel_rfl) (fun _ _ _ h=>h) (by rfl) ?_ (by assumption) ?_
 rotate_left
 ·intro w hSw;(try dsimp only at hSw);go_simp;(all_goals with_reducible rfl)
 simp only [Act.put,sA,sB,sC]
 refine wpAnyH_ready (rs:=[19]) (by kernel_rfl) (by simp) ?_
 refine AllReadyH.cons (o:=⟨some 22,_,_,_,_,_⟩) rfl (fun K hK=>?_) AllReadyH.nil
 go_simp
 refine(l1All_terr _ lt _ (HL.out.k5 sz).rt HL.out.bt).mono ?_;rintro e3 wx ⟨rfl,rfl⟩
 go_wp2_with fail
 refine hK.out _ _ ?_ (fun hHeld=>?_)
 ·(try dsimp only);(first | assumption | exact s1)
 clear hK K
 try simp only [Act.put,sA,sB,sC]
 refine tk 20 ⟨some 23,_,_,_,_,_⟩ ?_ rfl (by kernel_rfl) (fun _ _ _ h=>h) (by rfl) ?_ (by assumption) ?_
 rotate_left
 ·intro w hSw;(try dsimp only at hSw);go_simp;(all_goals with_reducible rfl)
 simp only [Act.put,sA,sB,sC]
 refine tk 21 ⟨some 24,_,_,_,_,_⟩ ?_ rfl (by kernel_rfl) (fun _ _ _ h=>h) (by rfl) ?_ (by assumption) ?_
 rotate_left
 ·intro w hSw;(try dsimp only at hSw);go_simp;(all_goals with_reducible rfl)
 simp only [Act.put,sA,sB,sC]
 refine tk 22 ⟨some 25,_,_,_,_,_⟩ ?_ rfl (by kernel_rfl) (fun _ _ _ h=>h) (by rfl) ?_ (by assumption) ?_
 rotate_left
 ·intro w hSw;(try dsimp only at hSw);go_simp;(all_goals with_reducible rfl)
 simp only [Act.put,sA,sB,sC]
 refine tk 23 ⟨some 26,_,_,_,_,_⟩ ?_ rfl (by kernel_rfl) (fun _ _ _ h=>h) (by rfl) ?_ (by assumption) ?_
 rotate_left
 ·intro w hSw;(try dsimp only at hSw);go_simp;(all_goals with_reducible rfl)
 simp only [Act.put,sA,sB,sC]
 refine tk 24 ⟨some 27,_,_,_,_,_⟩ ?_ rfl (by kernel_rfl) (fun _ _ _ h=>h) (by rfl) ?_ (by assumption) ?_
 rotate_left
 ·intro w hSw;(try dsimp only at hSw);go_simp;(all_goals with_reducible rfl)
 simp only [Act.put,sA,sB,sC]
 refine wpAnyH_ready (rs:=[25]) (by kernel_rfl) (by simp) ?_
 refine AllReadyH.cons (o:=⟨some 28,_,_,_,_,_⟩) rfl (fun K hK=>?_) AllReadyH.nil
 go_simp
 refine(mEdges_any _ _ _ _ _ (.slice Ar nr cr) lr _ a b c e (HL.out.k5 sz).rr HL.out.br).mono ?_;rintro e4 wv ⟨rfl,kv⟩;have sv:=keep5 kv sz
 go_wp2_with fail
 refine hK.out _ _ ?_ (fun hHeld=>?_)
 ·(try dsimp only);(first | assumption | exact s1)
 clear hK K
 try simp only [Act.put,sA,sB,sC]
 refine tk 26 ⟨some 29,_,_,_,_,_⟩ ?_ rfl (by kernel_rfl) (fun _ _ _ h=>h) (by rfl) ?_ (by assumption) ?_
 rotate_left
 ·intro w hSw;(try dsimp only at hSw);go_simp;(all_goals with_reducible rfl)
 simp only [Act.put,sA,sB,sC]
 refine tk 27 ⟨some 30,_,_,_,_,_⟩ ?_ rfl (by kernel_rfl) (fun _ _ _ h=>h) (by rfl) ?_ (by assumption) ?_
 rotate_left
 ·intro w hSw;(try dsimp only at hSw);go_simp;(all_goals with_reducible rfl)
 simp only [Act.put,sA,sB,sC]
 refine tk 28 ⟨some 31,_,_,_,_,_⟩ ?_ rfl (by kernel_rfl) (fun _ _ _ h=>h) (by rfl) ?_ (by assumption) ?_
 rotate_left
 ·intro w hSw;(try dsimp only at hSw);go_simp;(all_goals with_reducible rfl)
 simp only [Act.put,sA,sB,sC]
 refine tk 29 ⟨some 32,_,_,_,_,_⟩ ?_ rfl (by kernel_rfl) (fun _ _ _ h=>h) (by rfl) ?_ (by assumption) ?_
 rotate_left
 ·intro w hSw;(try dsimp only at hSw);go_simp;(all_goals with_reducible rfl)
 simp only [Act.put,sA,sB,sC]
 refine tk 30 ⟨some 33,_,_,_,_,_⟩ ?_ rfl (by kernel_rfl) (fun _ _ _ h=>h) (by rfl) ?_ (by assumption) ?_
 rotate_left
 ·intro w hSw;(try dsimp only at hSw);go_simp;(all_goals with_reducible rfl)
 simp only [Act.put,sA,sB,sC]
 refine wpAnyH_ready (rs:=[31]) (by kernel_rfl) (by simp) ?_
 refine AllReadyH.cons (o:=⟨some 34,_,_,_,_,_⟩) rfl (fun K hK=>?_) AllReadyH.nil
 go_simp
 refine(mEdges_any _ _ _ _ _ (.slice Ad nd cd) ld _ a b c e (HL.out.k5 sv).rd HL.out.bd).mono ?_;rintro e5 wu ⟨rfl,ku⟩;have su:=keep5 ku sv
 go_wp2_with fail
 refine hK.out _ _ ?_ (fun hHeld=>?_)
 ·(try dsimp only);(first | assumption | exact s1)
 clear hK K
 try simp only [Act.put,sA,sB,sC]
 refine tk 32 ⟨some 35,_,_,_,_,_⟩ ?_ rfl (by kernel_rfl) (fun _ _ _ h=>h) (by rfl) ?_ (by assumption) ?_
 rotate_left
 ·intro w hSw;(try dsimp only at hSw);go_simp;(all_goals with_reducible rfl)
 simp only [Act.put,sA,sB,sC]
 refine wpAnyH_ready (rs:=[33]) (by kernel_rfl) (by simp) ?_
 refine AllReadyH.cons (o:=⟨some 2,_,_,_,_,_⟩) rfl (fun K hK=>?_) AllReadyH.nil
 go_simp
 refine hK.out _ _ ?_ (fun hHeld=>?_)
 ·(try dsimp only);(first | assumption | exact s1)
 clear hK K
 try simp only [Act.put,sA,sB,sC]
 refine wpAnyH_done (by kernel_rfl) ?_ _
 go_wp2_with fail
 go_ret
 exact⟨rfl,su.2.2.2.2.2⟩
theorem mGood_any (W H:Int) (t r d:Value) (lt lr ld:List Int) (w:World) (hL:Lists w t r d lt lr ld) :
  Calls Tryz.prog 179 #[mp W H t r d] w fun e w'=>e=.returned (.bool (mapOk W H lt lr ld))∧Kp w w':=by
 have hL':=hL
 obtain⟨At,ct,rfl,_⟩:=hL.rt
 obtain⟨Ar,cr,rfl,_⟩:=hL.rr
 obtain⟨Ad,cd,rfl,_⟩:=hL.rd
 cases h:sideB W
 ·have e:mapOk W H lt lr ld=false:=by simp [mapOk,h]
  rw [e]
  exact mGood_no1 W H _ _ _ _ _ _ _ _ _ w h
 ·cases h':sideB H
  ·have e:mapOk W H lt lr ld=false:=by simp [mapOk,h']
   rw [e]
   exact mGood_no2 W H _ _ _ _ _ _ _ _ _ w h h'
  ·by_cases hn:(lt.length:Int)=W*H
   ·cases h4:lt.all terrB
    ·have e:mapOk W H lt lr ld=false:=by simp only [mapOk,h4,Bool.false_and,Bool.and_false]
     rw [e]
     exact mGood_no4 W H _ _ _ _ _ _ _ _ _ lt lr ld w hL' h h' hn h4
    ·cases h5:edgesOk W H lr
     ·have e:mapOk W H lt lr ld=false:=by simp only [mapOk,h5,Bool.false_and,Bool.and_false]
      rw [e]
      exact mGood_no5 W H _ _ _ _ _ _ _ _ _ lt lr ld w hL' h h' hn h4 h5
     ·have e:mapOk W H lt lr ld=edgesOk W H ld:=by simp only [mapOk,h,h',hn,h4,h5,Bool.true_and,decide_true]
      rw [e]
      exact mGood_yes W H _ _ _ _ _ _ _ _ _ lt lr ld w hL' h h' hn h4 h5
   ·have e:mapOk W H lt lr ld=false:=by simp [mapOk,hn]
    rw [e]
    exact mGood_no3 W H _ _ _ _ _ _ _ _ _ lt lr ld w hL' h h' hn
end Go.Proofs.YtacgknllagdkoaaGreatDoor
/-
 The functions on places and edges of a map, the program's and the reference's, return what plain functions say, and change nothing that was there. The table of directions holds what the program's text lays.
-/
namespace Go.Proofs.YtacgknllagdkoaaGreatDoor
open Go.RowKit
theorem mapOk_side {W H:Int} {lt lr ld:List Int} (h:mapOk W H lt lr ld=true):1≤W∧W≤10∧1≤H∧H≤10:=by
 simp only [mapOk,Bool.and_eq_true] at h
 exact⟨(sideB_true h.1).1,(sideB_true h.1).2,(sideB_true h.2.1).1,(sideB_true h.2.1).2⟩
end Go.Proofs.YtacgknllagdkoaaGreatDoor
/-
 Rivers and roads of a map, the program's and the reference's: what plain functions say, and nothing that was there is changed. The table of directions holds what the program's text lays.
-/
namespace Go.Proofs.YtacgknllagdkoaaGreatDoor
open Go.RowKit
def hasB (l:List Int) (m:Int):Bool:=l.contains m
theorem has_yes {x n:Int} {l:List Int} (h:x=n):hasB (x :: l) n=true:=by simp [hasB,h]
theorem has_no {x n:Int} {l:List Int} (h:¬ x=n):hasB (x :: l) n=hasB l n:=by
 unfold hasB
 rw [List.contains_cons]
 have:(n == x)=false:=by simpa using fun e:n=x=>h e.symm
 rw [this,Bool.false_or]
theorem l1Has_any (v:Value) (l:List Int) (m:Int) (w:World) (h:RdI w v l) (hl:l.length≤1048576) :
  Calls Tryz.prog 122 #[v,.int .i64 m] w fun e w'=>e=.returned (.bool (hasB l m))∧w=w':=by
 obtain⟨A,cp,rfl,h⟩:=h
 have HA:=Lib.hid h
 obtain⟨R,hR⟩:∃ R,R=hasB l m:=⟨_,rfl⟩
 rw [← hR]
 have HR:=Lib.hid hR
 clear h hR
 generalize hn:l.length=n at *
 have HN:=Lib.hid hn
 clear hn
 go_enter Tryz.func122,Tryz.ntmps122
 go_wp2_with fail
 go_loop [6,9] (fun _ i=>∃ k:Nat,k≤n∧i=.int .i64 k∧Hid (hasB (l.drop k) m=R)) (fun _ i=>n - (intOf i).toNat)
 case atStart=>exact⟨0,by omega,rfl,Lib.hid HR.out.symm⟩
 case round =>
  obtain⟨k,hk,rfl,hE⟩:=hrel
  by_cases hlt:k<n
  ·obtain⟨g,off,rfl,hc⟩:=HA.out (by omega)
   obtain⟨x,hx⟩:∃ x,l[k]?=some x:=⟨l[k]'(by have:=HN.out;omega),List.getElem?_eq_getElem _⟩
   have a0:=hc k x hx
   have HX:=Lib.hid (drop_step hx)
   clear hc hx
   have hlt':(k:Int)<n:=by omega
   by_cases hok:x=m
   ·have HE2:Hid (R=true):=Lib.hid (by rw [← hE.out,HX.out];exact has_yes hok)
    have he:(x == m)=true:=by simpa using hok
    clear hok
    go_wp2_with fail
    go_ret
    exact⟨ret_bool HE2.out.symm,rfl⟩
   ·have HE2:Hid (hasB (l.drop (k+1)) m=R):=Lib.hid (by rw [← hE.out,HX.out];exact(has_no hok).symm)
    have he:(x == m)=false:=by simpa using hok
    clear hok
    go_wp2_with fail
    go_round
    case rel=>exact⟨k+1,by omega,by go_num,HE2⟩
    case measure=>simp [intOf];omega
  ·obtain rfl:k=n:=by omega
   go_wp2_with fail
   go_ret
   refine⟨ret_bool ?_,rfl⟩
   rw [← hE.out,List.drop_of_length_le (by rw [HN.out];omega)]
   rfl
/-- A place at which the number stands, or a negative number. -/
def IndexPost (l:List Int) (m:Int) (w:World) (e:Ending) (w':World):Prop:=∃ j:Int,e=.returned (.int .i64 j)∧decide (0≤j)=hasB l m∧w=w'
theorem index_any (v:Value) (l:List Int) (m:Int) (w:World) (h:RdI w v l) (hl:l.length≤1048576) :
  Calls Tryz.prog 171 #[v,.int .i64 m] w (IndexPost l m w):=by
 obtain⟨A,cp,rfl,h⟩:=h
 have HA:=Lib.hid h
 obtain⟨R,hR⟩:∃ R,R=hasB l m:=⟨_,rfl⟩
 have HR:=Lib.hid hR
 have HP:Hid (∀ j:Int,decide (0≤j)=R→IndexPost l m w (.returned (.int .i64 j)) w):=Lib.hid fun j hj=>⟨j,rfl,hj.trans hR,rfl⟩
 clear h hR
 generalize hn:l.length=n at *
 have HN:=Lib.hid hn
 clear hn
 go_enter Tryz.func171,Tryz.ntmps171
 go_wp2_with fail
 go_loop [5,8] (fun _ i=>∃ k:Nat,k≤n∧i=.int .i64 k∧Hid (hasB (l.drop k) m=R)) (fun _ i=>n - (intOf i).toNat)
 case atStart=>exact⟨0,by omega,rfl,Lib.hid HR.out.symm⟩
 case round =>
  obtain⟨k,hk,rfl,hE⟩:=hrel
  by_cases hlt:k<n
  ·obtain⟨g,off,rfl,hc⟩:=HA.out (by omega)
   obtain⟨x,hx⟩:∃ x,l[k]?=some x:=⟨l[k]'(by have:=HN.out;omega),List.getElem?_eq_getElem _⟩
   have a0:=hc k x hx
   have HX:=Lib.hid (drop_step hx)
   clear hc hx
   have hlt':(k:Int)<n:=by omega
   by_cases hok:x=m
   ·have HE2:Hid (R=true):=Lib.hid (by rw [← hE.out,HX.out];exact has_yes hok)
    have he:(m == x)=true:=by simpa using hok.symm
    clear hok
    go_wp2_with fail
    go_ret
    exact HP.out _ (by rw [HE2.out];simp)
   ·have HE2:Hid (hasB (l.drop (k+1)) m=R):=Lib.hid (by rw [← hE.out,HX.out];exact(has_no hok).symm)
    have he:(m == x)=false:=by simpa using fun e:m=x=>hok e.symm
    clear hok
    go_wp2_with fail
    go_round
    case rel=>exact⟨k+1,by omega,by go_num,HE2⟩
    case measure=>simp [intOf];omega
  ·obtain rfl:k=n:=by omega
   go_wp2_with fail
   go_ret
   refine HP.out _ ?_
   rw [← hE.out,List.drop_of_length_le (by rw [HN.out];omega)]
   rfl
theorem contains_any (v:Value) (l:List Int) (m:Int) (w:World) (h:RdI w v l) (hl:l.length≤1048576) :
  Calls Tryz.prog 120 #[v,.int .i64 m] w fun e w'=>e=.returned (.bool (hasB l m))∧w=w':=by
 obtain⟨R,hR⟩:∃ R,R=hasB l m:=⟨_,rfl⟩
 have C:=index_any v l m w h hl
 unfold IndexPost at C
 rw [← hR] at C ⊢
 have HC:=Lib.hid C
 clear hR C h
 go_enter Tryz.func120,Tryz.ntmps120
 go_wp2_with fail
 refine HC.out.mono ?_
 rintro e w1 ⟨j,rfl,hj,rfl⟩
 subst hj
 go_wp2_with fail
 go_ret
 exact⟨rfl,rfl⟩
set_option maxHeartbeats 1000000 in
theorem mRiver_any (W H:Int) (t r d:Value) (lt lr ld:List Int) (i x:Int) (w:World) (hL:Lists w t r d lt lr ld) (a:1≤W) (b:W≤10) (c:1≤H) (e:H≤10) (hn:nbB W H i x=true) :
  Calls Tryz.prog 228 #[mp W H t r d,.int .i64 i,.int .i64 x] w fun e w'=>e=.returned (.bool (hasB lr (edgI W i x)))∧Kp w w':=by
 have HL:=Lib.hid hL
 obtain⟨Ar,cr,rfl,_⟩:=hL.rr
 obtain⟨Ad,cd,rfl,_⟩:=hL.rd
 have HN:=Lib.hid hn
 generalize lr.length=nr at *
 generalize ld.length=nd at *
 clear hL hn
 have s0:=new5 w (.int .i64 W) (.int .i64 H) t (.slice Ar nr cr) (.slice Ad nd cd) 45
 go_enter Tryz.func228,Tryz.ntmps228
 go_wp2_with fail
 generalize w.alloc (.cells #[.int .i64 W,.int .i64 H,t,.slice Ar nr cr,.slice Ad nd cd] 45)=W0 at *
 have s1:=drew5 s0
 go_region_held3 (fun w'=>cb5 w' (w.heap.size) (.int .i64 W) (.int .i64 H) t (.slice Ar nr cr) (.slice Ad nd cd) (Kp w w')) (first | assumption | exact s1)
  (first
   | (go_at_call 263;refine(mEdge_any _ _ _ _ _ _ _ _ a b c e HN.out).mono ?_;rintro e wc ⟨rfl,kc⟩;have sc:=keep5 kc s1)
   | (go_at_call 122;refine(l1Has_any _ lr _ _ (HL.out.k5 sc).rr HL.out.br).mono ?_;rintro e wd ⟨rfl,rfl⟩))
 all_goals
  go_wp2_with fail
  go_ret
  exact⟨rfl,sc.2.2.2.2.2⟩
set_option maxHeartbeats 1000000 in
theorem mRoad_any (W H:Int) (t r d:Value) (lt lr ld:List Int) (i x:Int) (w:World) (hL:Lists w t r d lt lr ld) (a:1≤W) (b:W≤10) (c:1≤H) (e:H≤10) (hn:nbB W H i x=true) :
  Calls Tryz.prog 226 #[mp W H t r d,.int .i64 i,.int .i64 x] w fun e w'=>e=.returned (.bool (hasB ld (edgI W i x)))∧Kp w w':=by
 have HL:=Lib.hid hL
 obtain⟨Ar,cr,rfl,_⟩:=hL.rr
 obtain⟨Ad,cd,rfl,_⟩:=hL.rd
 have HN:=Lib.hid hn
 generalize lr.length=nr at *
 generalize ld.length=nd at *
 clear hL hn
 have s0:=new5 w (.int .i64 W) (.int .i64 H) t (.slice Ar nr cr) (.slice Ad nd cd) 45
 go_enter Tryz.func226,Tryz.ntmps226
 go_wp2_with fail
 generalize w.alloc (.cells #[.int .i64 W,.int .i64 H,t,.slice Ar nr cr,.slice Ad nd cd] 45)=W0 at *
 have s1:=drew5 s0
 go_region_held3 (fun w'=>cb5 w' (w.heap.size) (.int .i64 W) (.int .i64 H) t (.slice Ar nr cr) (.slice Ad nd cd) (Kp w w')) (first | assumption | exact s1)
  (first
   | (go_at_call 263;refine(mEdge_any _ _ _ _ _ _ _ _ a b c e HN.out).mono ?_;rintro e wc ⟨rfl,kc⟩;have sc:=keep5 kc s1)
   | (go_at_call 122;refine(l1Has_any _ ld _ _ (HL.out.k5 sc).rd HL.out.bd).mono ?_;rintro e wd ⟨rfl,rfl⟩))
 all_goals
  go_wp2_with fail
  go_ret
  exact⟨rfl,sc.2.2.2.2.2⟩
end Go.Proofs.YtacgknllagdkoaaGreatDoor
