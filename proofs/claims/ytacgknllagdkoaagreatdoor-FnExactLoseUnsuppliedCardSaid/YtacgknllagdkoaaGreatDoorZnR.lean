/-
 Whether two hexes are neighbours with no river, or a road, between them, as the program tells it. Nothing that was there is changed. The table of directions holds what the program's text lays.
-/
import Derived.Test.YtacgknllagdkoaaGreatDoorZnM
import Derived.Test.YtacgknllagdkoaaGreatDoorQa
import Derived.Test.YtacgknllagdkoaaGreatDoorQj
import Derived.Test.YtacgknllagdkoaaGreatDoorQa
namespace Go.Proofs.YtacgknllagdkoaaGreatDoor
open Go.RowKit
theorem kp5 {W0 w:World} {b:Nat} {v0 v1 v2 v3 v4:Value} (h:cb5 w b v0 v1 v2 v3 v4 (Kp W0 w)):Kp W0 w:=h.2.2.2.2.2
set_option maxRecDepth 100000 in
set_option maxHeartbeats 4000000 in
theorem reaches_any (W H:Int) (x r y:Value) (lt lr ld:List Int) (i j:Int) (w:World) (ht:Tab w) (hL:Lists w x r y lt lr ld) (a:1≤W) (b:W≤10) (c:1≤H) (e:H≤10) (hi:onI W H i=true) (hj:onI W H j=true) :
  Calls Tryz.prog 282 #[mp W H x r y,.int .i64 i,.int .i64 j] w fun e' w'=>e'=.returned (.bool (rchB W lr ld i j))∧Kp w w':=by
 have hA:=area_bd a b c e
 obtain⟨i0,i1⟩:=onI_true hi
 obtain⟨j0,j1⟩:=onI_true hj
 obtain⟨p1,p2,p3,p4⟩:=hex_bd a b i0 i1
 obtain⟨q1,q2,q3,q4⟩:=hex_bd a b j0 j1
 have s0:=new5 w (.int .i64 W) (.int .i64 H) x r y 45
 have HT:=Lib.hid ht
 have HL:=Lib.hid hL
 have CD:Hid (∀ w,Tab w→Calls Tryz.prog 285 #[hx (i % W) (i / W),hx (j % W) (j / W)] w fun e w'=>e=.returned (.tuple #[.int .i64 (dirI W i j).1,.bool (dirI W i j).2])∧Kp w w'):=Lib.hid fun w ht=>by
  have h:=directionTo_any (i % W) (i / W) (j % W) (j / W) w ht
  have o1:okH (i % W) (i / W)=true:=by simp [okH,okC];omega
  have o2:okH (j % W) (j / W)=true:=by simp [okH,okC];omega
  rw [show dres (i % W) (i / W) (j % W) (j / W)=dirI W i j by unfold dres;rw [o1,o2];rfl] at h
  exact h
 rcases dirI_cases (H:=H) a b hi hj with h | ⟨k,hk,h,hn⟩
 ·have e0:rchB W lr ld i j=false:=by unfold rchB;rw [h];rfl
  rw [e0]
  rw [h] at CD
  generalize (dirI W i j).1=X at CD
  clear ht hL hi hj h e0 HL
  go_enter Tryz.func282,Tryz.ntmps282
  go_wp2_with fail
  generalize w.alloc (.cells #[.int .i64 W,.int .i64 H,x,r,y] 45)=W0 at *
  have s1:=drew5 s0
  go_region_held3 (fun w'=>cb5 w' (w.heap.size) (.int .i64 W) (.int .i64 H) x r y (Kp w w')) (first | assumption | exact s1)
   (first
    | (go_at_call 223;refine(hexWithIndex_any _ _ _ _ _ _ _ a b (by omega) (by omega)).mono ?_;rintro e1 w1 ⟨rfl,k1⟩;have s2:=keep5 k1 (by assumption))
    | (go_at_call 285;refine(CD.out _ (HT.out.keep (kp5 (by assumption)))).mono ?_;rintro e2 w2 ⟨rfl,k2⟩;have s3:=keep5 k2 (by assumption)))
  all_goals
   go_wp2_with fail
   go_ret
   exact⟨rfl,s3.2.2.2.2.2⟩
 ·have e0:rchB W lr ld i j=(!hasB lr (edgI W i k) || hasB ld (edgI W i k)):=by unfold rchB;rw [h];rfl
  rw [e0]
  rw [h] at CD
  have CE:Hid (∀ w,Tab w→Calls Tryz.prog 250 #[mp W H x r y,.int .i64 i,.int .i64 (k:Int)] w fun e w'=>e=.returned (.tuple #[.int .i64 (edgI W i k),.bool true])∧Kp w w'):=Lib.hid fun w ht=>by
   have h:=edgeNumber_any W H x r y i k w a b c e ht
   rw [hn] at h
   exact h
  generalize edgI W i k=E at CE ⊢
  clear ht hL hi hj h e0 hn
  cases hd:hasB ld E
  ·rw [Bool.or_false]
   go_enter Tryz.func282,Tryz.ntmps282
   go_wp2_with fail
   generalize w.alloc (.cells #[.int .i64 W,.int .i64 H,x,r,y] 45)=W0 at *
   have s1:=drew5 s0
   go_region_held3 (fun w'=>cb5 w' (w.heap.size) (.int .i64 W) (.int .i64 H) x r y (Kp w w')) (first | assumption | exact s1)
    (first
     | (go_at_call 223;refine(hexWithIndex_any _ _ _ _ _ _ _ a b (by omega) (by omega)).mono ?_;rintro e1 w1 ⟨rfl,k1⟩;have s2:=keep5 k1 (by assumption))
     | (go_at_call 285;refine(CD.out _ (HT.out.keep (kp5 (by assumption)))).mono ?_;rintro e2 w2 ⟨rfl,k2⟩;have s3:=keep5 k2 (by assumption)))
   all_goals
    go_wp2_with fail
    refine(CE.out _ (HT.out.keep s3.2.2.2.2.2)).mono ?_
    rintro e4 w4 ⟨rfl,k4⟩
    have s4:=keep5 k4 s3
    clear s3 k4
    go_wp2_with fail
    refine(contains_any _ ld E _ (HL.out.keep s4.2.2.2.2.2).rd HL.out.bd).mono ?_
    rintro e5 w5 ⟨rfl,rfl⟩
    rw [hd]
    go_wp2_with fail
    refine(contains_any _ lr E _ (HL.out.keep s4.2.2.2.2.2).rr HL.out.br).mono ?_
    rintro e6 w6 ⟨rfl,rfl⟩
    go_wp2_with fail
    go_ret
    exact⟨rfl,s4.2.2.2.2.2⟩
  ·rw [Bool.or_true]
   go_enter Tryz.func282,Tryz.ntmps282
   go_wp2_with fail
   generalize w.alloc (.cells #[.int .i64 W,.int .i64 H,x,r,y] 45)=W0 at *
   have s1:=drew5 s0
   go_region_held3 (fun w'=>cb5 w' (w.heap.size) (.int .i64 W) (.int .i64 H) x r y (Kp w w')) (first | assumption | exact s1)
    (first
     | (go_at_call 223;refine(hexWithIndex_any _ _ _ _ _ _ _ a b (by omega) (by omega)).mono ?_;rintro e1 w1 ⟨rfl,k1⟩;have s2:=keep5 k1 (by assumption))
     | (go_at_call 285;refine(CD.out _ (HT.out.keep (kp5 (by assumption)))).mono ?_;rintro e2 w2 ⟨rfl,k2⟩;have s3:=keep5 k2 (by assumption)))
   all_goals
    go_wp2_with fail
    refine(CE.out _ (HT.out.keep s3.2.2.2.2.2)).mono ?_
    rintro e4 w4 ⟨rfl,k4⟩
    have s4:=keep5 k4 s3
    clear s3 k4
    go_wp2_with fail
    refine(contains_any _ ld E _ (HL.out.keep s4.2.2.2.2.2).rd HL.out.bd).mono ?_
    rintro e5 w5 ⟨rfl,rfl⟩
    rw [hd]
    go_wp2_with fail
    go_ret
    exact⟨rfl,s4.2.2.2.2.2⟩
end Go.Proofs.YtacgknllagdkoaaGreatDoor
