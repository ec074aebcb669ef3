import Derived.Maps.AppendAt
import Derived.Deep.Cut
import Derived.Deep.RegionHeld3
import Derived.Test.YtgefinicjphmpaaGreatDoorSuY
namespace Go.Proofs.YtgefinicjphmpaaGreatDoor
open Go.RowKit
set_option maxRecDepth 100000 in
set_option maxHeartbeats 4000000 in
theorem supplyBlockedP_s (At Ak:Option Addr) (nt nk ct ck:Nat) (l:List Ter) (m:List Knd) (a b c d e W H:Int) (Ax Ar Ay:Option Addr) (nx cx nr cr ny cy:Nat) (lt lr ld:List Int) (T Z:Int) (Au:Option Addr) (nu cu:Nat) (us:List Uni) (sd i:Int) (w:World) (hs:Spans w) (ht:Tab w) (hu:SpU w) (hB:BrdAt w At Ak nt nk l m (.slice Ax nx cx) (.slice Ar nr cr) (.slice Ay ny cy) lt lr ld) (hS:StaAt w (.slice Au nu cu) us) :
    Calls Tryz.prog 17 #[bv (.slice At nt ct) (.slice Ak nk ck) a b c d e W H (.slice Ax nx cx) (.slice Ar nr cr) (.slice Ay ny cy),sv T Z (.slice Au nu cu),.int .i64 sd,.int .i64 i] w fun e' w'=>e'=.returned (.tuple #[.bool ((((brdOk ⟨l,m,a,b,c,d,e⟩ W H lt lr ld && staOk ⟨l,m,a,b,c,d,e⟩ W H lt T Z us) && onI W H i) && spB 0 1 sd) && blkB l m lt lr ld W us sd i),.bool (((brdOk ⟨l,m,a,b,c,d,e⟩ W H lt lr ld && staOk ⟨l,m,a,b,c,d,e⟩ W H lt T Z us) && onI W H i) && spB 0 1 sd)])∧Kp w w':=by
  have KA:Kp w ((w.alloc (.cells #[.slice At nt ct,.slice Ak nk ck,.int .i64 a,.int .i64 b,.int .i64 c,.int .i64 d,.int .i64 e,.int .i64 W,.int .i64 H,.slice Ax nx cx,.slice Ar nr cr,.slice Ay ny cy] 44)).alloc (.cells #[.int .i64 T,.int .i64 Z,.slice Au nu cu] 48)):=((Kp.refl w).alloc _).alloc _
  have H0:Hid (∀ w',Kp ((w.alloc (.cells #[.slice At nt ct,.slice Ak nk ck,.int .i64 a,.int .i64 b,.int .i64 c,.int .i64 d,.int .i64 e,.int .i64 W,.int .i64 H,.slice Ax nx cx,.slice Ar nr cr,.slice Ay ny cy] 44)).alloc (.cells #[.int .i64 T,.int .i64 Z,.slice Au nu cu] 48)) w'→World.rangeAt w' w.heap.size 0 [.slice At nt ct,.slice Ak nk ck,.int .i64 a,.int .i64 b,.int .i64 c,.int .i64 d,.int .i64 e,.int .i64 W,.int .i64 H,.slice Ax nx cx,.slice Ar nr cr,.slice Ay ny cy]∧World.rangeAt w' (w.heap.size + 1) 0 [.int .i64 T,.int .i64 Z,.slice Au nu cu]):=Lib.hid fun w' k=>by
      have r3:=range_fresh (w.alloc (.cells #[.slice At nt ct,.slice Ak nk ck,.int .i64 a,.int .i64 b,.int .i64 c,.int .i64 d,.int .i64 e,.int .i64 W,.int .i64 H,.slice Ax nx cx,.slice Ar nr cr,.slice Ay ny cy] 44)) [.int .i64 T,.int .i64 Z,.slice Au nu cu] 48
      rw [show (w.alloc (.cells #[.slice At nt ct,.slice Ak nk ck,.int .i64 a,.int .i64 b,.int .i64 c,.int .i64 d,.int .i64 e,.int .i64 W,.int .i64 H,.slice Ax nx cx,.slice Ar nr cr,.slice Ay ny cy] 44)).heap.size=w.heap.size + 1 by simp] at r3
      exact ⟨range_keep (range_fresh w [.slice At nt ct,.slice Ak nk ck,.int .i64 a,.int .i64 b,.int .i64 c,.int .i64 d,.int .i64 e,.int .i64 W,.int .i64 H,.slice Ax nx cx,.slice Ar nr cr,.slice Ay ny cy] 44) (((Kp.refl _).alloc _).trans k),range_keep r3 k⟩
  have I12:Hid ((Tryz.prog.info? 44).map (·.size)=some 12):=Lib.hid (by kernel_rfl)
  have I3:Hid ((Tryz.prog.info? 48).map (·.size)=some 3):=Lib.hid (by kernel_rfl)
  have I17:Hid ((Tryz.prog.info? 80).map (·.size)=some 17):=Lib.hid (by kernel_rfl)
  have I4:Hid ((Tryz.prog.info? 103).map (·.size)=some 4):=Lib.hid (by kernel_rfl)
  have I5:Hid ((Tryz.prog.info? 42).map (·.size)=some 5):=Lib.hid (by kernel_rfl)
  have HSP:=Lib.hid hs
  have HT:=Lib.hid ht
  have HU:=Lib.hid hu
  have HB:=Lib.hid hB
  have HS:=Lib.hid hS
  have CSU:=Lib.hid (fun (w:World) hs ht hu hB hS=>supplierOf_any At Ak nt nk ct ck l m a b c d e W H (.slice Ax nx cx) (.slice Ar nr cr) (.slice Ay ny cy) lt lr ld T Z (.slice Au nu cu) us sd none 0 0 [] w hs ht hu hB hS ⟨none,0,rfl,fun h=>by cases h⟩ (by simp))
  rw [show srcOk W H []=true from rfl,Bool.and_true] at CSU
  rw [show (((brdOk ⟨l,m,a,b,c,d,e⟩ W H lt lr ld && staOk ⟨l,m,a,b,c,d,e⟩ W H lt T Z us) && onI W H i) && spB 0 1 sd)=((((brdOk ⟨l,m,a,b,c,d,e⟩ W H lt lr ld && staOk ⟨l,m,a,b,c,d,e⟩ W H lt T Z us) && spB 0 1 sd)) && onI W H i) by rw [Bool.and_right_comm]]
  clear hs ht hu hB hS
  cases hg:(brdOk ⟨l,m,a,b,c,d,e⟩ W H lt lr ld && staOk ⟨l,m,a,b,c,d,e⟩ W H lt T Z us) && spB 0 1 sd
  · rw [hg,if_neg Bool.false_ne_true] at CSU
    rw [Bool.false_and,Bool.false_and]
    clear hg
    go_enter Tryz.func17,Tryz.ntmps17
    go_upto_region 1 with (fail)
    generalize ((w.alloc (.cells #[.slice At nt ct,.slice Ak nk ck,.int .i64 a,.int .i64 b,.int .i64 c,.int .i64 d,.int .i64 e,.int .i64 W,.int .i64 H,.slice Ax nx cx,.slice Ar nr cr,.slice Ay ny cy] 44)).alloc (.cells #[.int .i64 T,.int .i64 Z,.slice Au nu cu] 48))=W0 at *
    obtain ⟨s12,s3⟩:=H0.out W0 (Kp.refl _)
    go_wp2_with (first | ((with_reducible refine load_m s12 Tryz.underlying44 ?_ ?_ ?_ ?_ ?_);exact I12.out;rfl;rfl;rfl) | ((with_reducible refine load_m s3 Tryz.underlying48 ?_ ?_ ?_ ?_ ?_);exact I3.out;rfl;rfl;rfl))
    refine (CSU.out _ (HSP.out.keep KA) (HT.out.keep KA) (HU.out.keep KA) (HB.out.keep KA) (HS.out.keep KA)).mono ?_
    rintro e1 w1 ⟨rfl,q1⟩
    have K1:=KA.trans q1
    clear s12 s3
    have t17:World.there (w1.alloc (.cells #[.slice none 0 0,.slice none 0 0,.int .i64 0,.int .i64 0,.int .i64 0,.int .i64 0,.int .i64 0,.int .i64 0,.int .i64 0,.slice none 0 0,.slice none 0 0,.slice none 0 0,.int .i64 0,.int .i64 0,.slice none 0 0,.int .i64 0,.slice none 0 0] 80)) w1.heap.size 0 (#[.slice none 0 0,.slice none 0 0,.int .i64 0,.int .i64 0,.int .i64 0,.int .i64 0,.int .i64 0,.int .i64 0,.int .i64 0,.slice none 0 0,.slice none 0 0,.slice none 0 0,.int .i64 0,.int .i64 0,.slice none 0 0,.int .i64 0,.slice none 0 0]:Array Value).size:=there_fresh w1 [.slice none 0 0,.slice none 0 0,.int .i64 0,.int .i64 0,.int .i64 0,.int .i64 0,.int .i64 0,.int .i64 0,.int .i64 0,.slice none 0 0,.slice none 0 0,.slice none 0 0,.int .i64 0,.int .i64 0,.slice none 0 0,.int .i64 0,.slice none 0 0] 80
    obtain ⟨W9,hW9⟩:∃ W9,W9=(w1.alloc (.cells #[.slice none 0 0,.slice none 0 0,.int .i64 0,.int .i64 0,.int .i64 0,.int .i64 0,.int .i64 0,.int .i64 0,.int .i64 0,.slice none 0 0,.slice none 0 0,.slice none 0 0,.int .i64 0,.int .i64 0,.slice none 0 0,.int .i64 0,.slice none 0 0] 80)).setCells w1.heap.size 0 (#[.slice none 0 0,.slice none 0 0,.int .i64 0,.int .i64 0,.int .i64 0,.int .i64 0,.int .i64 0,.int .i64 0,.int .i64 0,.slice none 0 0,.slice none 0 0,.slice none 0 0,.int .i64 0,.int .i64 0,.slice none 0 0,.int .i64 0,.slice none 0 0]:Array Value).toList:=⟨_,rfl⟩
    have r9:World.rangeAt W9 w1.heap.size 0 [.slice none 0 0,.slice none 0 0,.int .i64 0,.int .i64 0,.int .i64 0,.int .i64 0,.int .i64 0,.int .i64 0,.int .i64 0,.slice none 0 0,.slice none 0 0,.slice none 0 0,.int .i64 0,.int .i64 0,.slice none 0 0,.int .i64 0,.slice none 0 0]:=by
      rw [hW9]
      exact World.rangeAt_setCells_same _ _ _ _ t17
    have K9:Kp w W9:=by
      have hz:=K1.size
      rw [hW9]
      exact kp_cells (by omega) _ _ _ (K1.alloc _)
    have kW0:Kp W0 W9:=by
      have hz:=q1.size
      rw [hW9]
      exact kp_cells (by omega) _ _ _ (q1.alloc _)
    have HW9:=Lib.hid hW9
    clear hW9
    obtain ⟨s12,s3⟩:=H0.out W9 kW0
    have s5:=range_part s12 7 5
    go_wp2_with (first | ((with_reducible refine store_m t17 ?_ ?_ ?_ ?_ ?_ ?_);exact I17.out;(simp [Value.oneCell']);rfl;rfl;rfl;rw [← HW9.out]) | ((with_reducible refine load_m r9 Tryz.underlying80 ?_ ?_ ?_ ?_ ?_);exact I17.out;rfl;rfl;rfl) | ((with_reducible refine load_m s12 Tryz.underlying44 ?_ ?_ ?_ ?_ ?_);exact I12.out;rfl;rfl;rfl) | ((with_reducible refine load_m s3 Tryz.underlying48 ?_ ?_ ?_ ?_ ?_);exact I3.out;rfl;rfl;rfl) | ((with_reducible refine load_m s5 Tryz.underlying42 ?_ ?_ ?_ ?_ ?_);exact I5.out;rfl;rfl;rfl))
    go_ret2
    exact ⟨rfl,K9⟩
  · rw [hg,if_pos rfl] at CSU
    rw [Bool.true_and]
    simp only [Bool.and_eq_true] at hg
    obtain ⟨⟨hok,hst⟩,hsd0⟩:=hg
    have hsd:sd=0 ∨ sd=1:=by
      simp only [spB,Bool.and_eq_true,decide_eq_true_iff] at hsd0
      omega
    obtain ⟨p1,p2,p3,p4⟩:=mapOk_side (brdOk_map hok)
    have hlen:=mapOk_len (brdOk_map hok)
    have CIX:Hid (∀ w,Calls Tryz.prog 53 #[mp W H (.slice Ax nx cx) (.slice Ar nr cr) (.slice Ay ny cy),.int .i64 i] w fun e' w'=>e'=.returned (.bool (onI W H i))∧Kp w w'):=Lib.hid fun w=>isIndex_any W H (.slice Ax nx cx) (.slice Ar nr cr) (.slice Ay ny cy) i w p1 p2 p3 p4
    cases hi:onI W H i
    · rw [hi] at CIX
      rw [Bool.false_and]
      clear hok hst hsd0 hsd hlen hi p1 p2 p3 p4
      go_enter Tryz.func17,Tryz.ntmps17
      go_upto_region 1 with (fail)
      generalize ((w.alloc (.cells #[.slice At nt ct,.slice Ak nk ck,.int .i64 a,.int .i64 b,.int .i64 c,.int .i64 d,.int .i64 e,.int .i64 W,.int .i64 H,.slice Ax nx cx,.slice Ar nr cr,.slice Ay ny cy] 44)).alloc (.cells #[.int .i64 T,.int .i64 Z,.slice Au nu cu] 48))=W0 at *
      obtain ⟨s12,s3⟩:=H0.out W0 (Kp.refl _)
      go_wp2_with (first | ((with_reducible refine load_m s12 Tryz.underlying44 ?_ ?_ ?_ ?_ ?_);exact I12.out;rfl;rfl;rfl) | ((with_reducible refine load_m s3 Tryz.underlying48 ?_ ?_ ?_ ?_ ?_);exact I3.out;rfl;rfl;rfl))
      refine (CSU.out _ (HSP.out.keep KA) (HT.out.keep KA) (HU.out.keep KA) (HB.out.keep KA) (HS.out.keep KA)).mono ?_
      rintro e1 w1 ⟨rfl,q1⟩
      have K1:=KA.trans q1
      clear s12 s3
      have t17:World.there (w1.alloc (.cells #[.slice none 0 0,.slice none 0 0,.int .i64 0,.int .i64 0,.int .i64 0,.int .i64 0,.int .i64 0,.int .i64 0,.int .i64 0,.slice none 0 0,.slice none 0 0,.slice none 0 0,.int .i64 0,.int .i64 0,.slice none 0 0,.int .i64 0,.slice none 0 0] 80)) w1.heap.size 0 (#[.slice At nt ct,.slice Ak nk ck,.int .i64 a,.int .i64 b,.int .i64 c,.int .i64 d,.int .i64 e,.int .i64 W,.int .i64 H,.slice Ax nx cx,.slice Ar nr cr,.slice Ay ny cy,.int .i64 T,.int .i64 Z,.slice Au nu cu,.int .i64 sd,.slice none 0 0]:Array Value).size:=there_fresh w1 [.slice none 0 0,.slice none 0 0,.int .i64 0,.int .i64 0,.int .i64 0,.int .i64 0,.int .i64 0,.int .i64 0,.int .i64 0,.slice none 0 0,.slice none 0 0,.slice none 0 0,.int .i64 0,.int .i64 0,.slice none 0 0,.int .i64 0,.slice none 0 0] 80
      obtain ⟨W9,hW9⟩:∃ W9,W9=(w1.alloc (.cells #[.slice none 0 0,.slice none 0 0,.int .i64 0,.int .i64 0,.int .i64 0,.int .i64 0,.int .i64 0,.int .i64 0,.int .i64 0,.slice none 0 0,.slice none 0 0,.slice none 0 0,.int .i64 0,.int .i64 0,.slice none 0 0,.int .i64 0,.slice none 0 0] 80)).setCells w1.heap.size 0 (#[.slice At nt ct,.slice Ak nk ck,.int .i64 a,.int .i64 b,.int .i64 c,.int .i64 d,.int .i64 e,.int .i64 W,.int .i64 H,.slice Ax nx cx,.slice Ar nr cr,.slice Ay ny cy,.int .i64 T,.int .i64 Z,.slice Au nu cu,.int .i64 sd,.slice none 0 0]:Array Value).toList:=⟨_,rfl⟩
      have r9:World.rangeAt W9 w1.heap.size 0 [.slice At nt ct,.slice Ak nk ck,.int .i64 a,.int .i64 b,.int .i64 c,.int .i64 d,.int .i64 e,.int .i64 W,.int .i64 H,.slice Ax nx cx,.slice Ar nr cr,.slice Ay ny cy,.int .i64 T,.int .i64 Z,.slice Au nu cu,.int .i64 sd,.slice none 0 0]:=by
        rw [hW9]
        exact World.rangeAt_setCells_same _ _ _ _ t17
      have K9:Kp w W9:=by
        have hz:=K1.size
        rw [hW9]
        exact kp_cells (by omega) _ _ _ (K1.alloc _)
      have kW0:Kp W0 W9:=by
        have hz:=q1.size
        rw [hW9]
        exact kp_cells (by omega) _ _ _ (q1.alloc _)
      have HW9:=Lib.hid hW9
      clear hW9
      obtain ⟨s12,s3⟩:=H0.out W9 kW0
      have s5:=range_part s12 7 5
      go_wp2_with (first | ((with_reducible refine store_m t17 ?_ ?_ ?_ ?_ ?_ ?_);exact I17.out;(simp [Value.oneCell']);rfl;rfl;rfl;rw [← HW9.out]) | ((with_reducible refine load_m r9 Tryz.underlying80 ?_ ?_ ?_ ?_ ?_);exact I17.out;rfl;rfl;rfl) | ((with_reducible refine load_m s12 Tryz.underlying44 ?_ ?_ ?_ ?_ ?_);exact I12.out;rfl;rfl;rfl) | ((with_reducible refine load_m s3 Tryz.underlying48 ?_ ?_ ?_ ?_ ?_);exact I3.out;rfl;rfl;rfl) | ((with_reducible refine load_m s5 Tryz.underlying42 ?_ ?_ ?_ ?_ ?_);exact I5.out;rfl;rfl;rfl))
      refine (CIX.out _).mono ?_
      rintro e2 w2 ⟨rfl,q2⟩
      go_wp2_with fail
      go_ret2
      exact ⟨rfl,K9.trans q2⟩
    · rw [hi] at CIX
      rw [Bool.true_and]
      obtain ⟨n,rfl,hn⟩:=onI_at hi hlen
      have CB:=Lib.hid (fun (w:World) ht hB hS=>isBlocked_any At Ak nt nk ct ck l m a b c d e W H (.slice Ax nx cx) (.slice Ar nr cr) (.slice Ay ny cy) lt lr ld T Z (.slice Au nu cu) us sd (.slice none 0 0) n w ht hB hS hok hst hn hsd)
      generalize blkB l m lt lr ld W us sd (n:Int)=R at CB ⊢
      clear hok hst hsd0 hsd hlen hi hn p1 p2 p3 p4
      go_enter Tryz.func17,Tryz.ntmps17
      go_upto_region 1 with (fail)
      generalize ((w.alloc (.cells #[.slice At nt ct,.slice Ak nk ck,.int .i64 a,.int .i64 b,.int .i64 c,.int .i64 d,.int .i64 e,.int .i64 W,.int .i64 H,.slice Ax nx cx,.slice Ar nr cr,.slice Ay ny cy] 44)).alloc (.cells #[.int .i64 T,.int .i64 Z,.slice Au nu cu] 48))=W0 at *
      obtain ⟨s12,s3⟩:=H0.out W0 (Kp.refl _)
      go_wp2_with (first | ((with_reducible refine load_m s12 Tryz.underlying44 ?_ ?_ ?_ ?_ ?_);exact I12.out;rfl;rfl;rfl) | ((with_reducible refine load_m s3 Tryz.underlying48 ?_ ?_ ?_ ?_ ?_);exact I3.out;rfl;rfl;rfl))
      refine (CSU.out _ (HSP.out.keep KA) (HT.out.keep KA) (HU.out.keep KA) (HB.out.keep KA) (HS.out.keep KA)).mono ?_
      rintro e1 w1 ⟨rfl,q1⟩
      have K1:=KA.trans q1
      clear s12 s3
      have t17:World.there (w1.alloc (.cells #[.slice none 0 0,.slice none 0 0,.int .i64 0,.int .i64 0,.int .i64 0,.int .i64 0,.int .i64 0,.int .i64 0,.int .i64 0,.slice none 0 0,.slice none 0 0,.slice none 0 0,.int .i64 0,.int .i64 0,.slice none 0 0,.int .i64 0,.slice none 0 0] 80)) w1.heap.size 0 (#[.slice At nt ct,.slice Ak nk ck,.int .i64 a,.int .i64 b,.int .i64 c,.int .i64 d,.int .i64 e,.int .i64 W,.int .i64 H,.slice Ax nx cx,.slice Ar nr cr,.slice Ay ny cy,.int .i64 T,.int .i64 Z,.slice Au nu cu,.int .i64 sd,.slice none 0 0]:Array Value).size:=there_fresh w1 [.slice none 0 0,.slice none 0 0,.int .i64 0,.int .i64 0,.int .i64 0,.int .i64 0,.int .i64 0,.int .i64 0,.int .i64 0,.slice none 0 0,.slice none 0 0,.slice none 0 0,.int .i64 0,.int .i64 0,.slice none 0 0,.int .i64 0,.slice none 0 0] 80
      obtain ⟨W9,hW9⟩:∃ W9,W9=(w1.alloc (.cells #[.slice none 0 0,.slice none 0 0,.int .i64 0,.int .i64 0,.int .i64 0,.int .i64 0,.int .i64 0,.int .i64 0,.int .i64 0,.slice none 0 0,.slice none 0 0,.slice none 0 0,.int .i64 0,.int .i64 0,.slice none 0 0,.int .i64 0,.slice none 0 0] 80)).setCells w1.heap.size 0 (#[.slice At nt ct,.slice Ak nk ck,.int .i64 a,.int .i64 b,.int .i64 c,.int .i64 d,.int .i64 e,.int .i64 W,.int .i64 H,.slice Ax nx cx,.slice Ar nr cr,.slice Ay ny cy,.int .i64 T,.int .i64 Z,.slice Au nu cu,.int .i64 sd,.slice none 0 0]:Array Value).toList:=⟨_,rfl⟩
      have r9:World.rangeAt W9 w1.heap.size 0 [.slice At nt ct,.slice Ak nk ck,.int .i64 a,.int .i64 b,.int .i64 c,.int .i64 d,.int .i64 e,.int .i64 W,.int .i64 H,.slice Ax nx cx,.slice Ar nr cr,.slice Ay ny cy,.int .i64 T,.int .i64 Z,.slice Au nu cu,.int .i64 sd,.slice none 0 0]:=by
        rw [hW9]
        exact World.rangeAt_setCells_same _ _ _ _ t17
      have K9:Kp w W9:=by
        have hz:=K1.size
        rw [hW9]
        exact kp_cells (by omega) _ _ _ (K1.alloc _)
      have kW0:Kp W0 W9:=by
        have hz:=q1.size
        rw [hW9]
        exact kp_cells (by omega) _ _ _ (q1.alloc _)
      have HW9:=Lib.hid hW9
      clear hW9
      obtain ⟨s12,s3⟩:=H0.out W9 kW0
      have s5:=range_part s12 7 5
      go_wp2_with (first | ((with_reducible refine store_m t17 ?_ ?_ ?_ ?_ ?_ ?_);exact I17.out;(simp [Value.oneCell']);rfl;rfl;rfl;rw [← HW9.out]) | ((with_reducible refine load_m r9 Tryz.underlying80 ?_ ?_ ?_ ?_ ?_);exact I17.out;rfl;rfl;rfl) | ((with_reducible refine load_m s12 Tryz.underlying44 ?_ ?_ ?_ ?_ ?_);exact I12.out;rfl;rfl;rfl) | ((with_reducible refine load_m s3 Tryz.underlying48 ?_ ?_ ?_ ?_ ?_);exact I3.out;rfl;rfl;rfl) | ((with_reducible refine load_m s5 Tryz.underlying42 ?_ ?_ ?_ ?_ ?_);exact I5.out;rfl;rfl;rfl))
      refine (CIX.out _).mono ?_
      rintro e2 w2 ⟨rfl,q2⟩
      have r92:=range_keep r9 q2
      have K92:=K9.trans q2
      clear r9 t17 s12 s3 s5
      have r9:=r92
      go_wp2_with (first | ((with_reducible refine load_m r9 Tryz.underlying80 ?_ ?_ ?_ ?_ ?_);exact I17.out;rfl;rfl;rfl))
      refine (CB.out _ (HT.out.keep K92) (HB.out.keep K92) (HS.out.keep K92)).mono ?_
      rintro e3 w3 ⟨rfl,q3⟩
      go_wp2_with fail
      go_ret2
      exact ⟨rfl,K92.trans q3⟩
theorem supplyBlockedP_any (At Ak:Option Addr) (nt nk ct ck:Nat) (l:List Ter) (m:List Knd) (a b c d e W H:Int) (x r y:Value) (lt lr ld:List Int) (T Z:Int) (u:Value) (us:List Uni) (sd i:Int) (w:World) (hs:Spans w) (ht:Tab w) (hu:SpU w) (hB:BrdAt w At Ak nt nk l m x r y lt lr ld) (hS:StaAt w u us) :
    Calls Tryz.prog 17 #[bv (.slice At nt ct) (.slice Ak nk ck) a b c d e W H x r y,sv T Z u,.int .i64 sd,.int .i64 i] w fun e' w'=>e'=.returned (.tuple #[.bool ((((brdOk ⟨l,m,a,b,c,d,e⟩ W H lt lr ld && staOk ⟨l,m,a,b,c,d,e⟩ W H lt T Z us) && onI W H i) && spB 0 1 sd) && blkB l m lt lr ld W us sd i),.bool (((brdOk ⟨l,m,a,b,c,d,e⟩ W H lt lr ld && staOk ⟨l,m,a,b,c,d,e⟩ W H lt T Z us) && onI W H i) && spB 0 1 sd)])∧Kp w w':=by
  obtain ⟨Ax,cx,rfl,_⟩:=hB.L.rt
  obtain ⟨Ar,cr,rfl,_⟩:=hB.L.rr
  obtain ⟨Ay,cy,rfl,_⟩:=hB.L.rd
  obtain ⟨Au,cu,rfl,_⟩:=hS.rd
  exact supplyBlockedP_s At Ak nt nk ct ck l m a b c d e W H Ax Ar Ay lt.length cx lr.length cr ld.length cy lt lr ld T Z Au us.length cu us sd i w hs ht hu hB hS
end Go.Proofs.YtgefinicjphmpaaGreatDoor
