import Derived.Maps.AppendAt
import Derived.Deep.Cut
import Derived.Deep.RegionHeld3
import Derived.Test.YtgefinicjphmpaaGreatDoorSuD
import Derived.Test.YtgefinicjphmpaaGreatDoorSuO
namespace Go.Proofs.YtgefinicjphmpaaGreatDoor
open Go.RowKit
theorem mkIntsD (n:Nat) (hn:n ≤ 1048576) (w:World) :
    (Instr.makeSlice 26 (.int .i64 0) (.int .i64 (n:Int))).run Tryz.prog w=.ok (.slice (some ⟨w.heap.size,0,none⟩) 0 n) (w.alloc (.cells (madeCells #[.int .i64 0] n) 3)):=by
  obtain ⟨i,hi,hz,hs,hb⟩:=info_parts infoInt
  have hr:=run_make (P:=Tryz.prog) w 26 3 i (.int .i64 0) Tryz.underlying26 hi hz .i64 .i64 0 (n:Int) (Int.le_refl _) (by omega) (by rw [hb];omega) (by omega)
  rw [hs,Int.toNat_natCast,Nat.mul_one] at hr
  exact hr
theorem ownI_madeD (w:World) (n:Nat) (hn:n ≤ 1048576):OwnI (w.alloc (.cells (madeCells #[.int .i64 0] n) 3)) w.heap.size (.slice (some ⟨w.heap.size,0,none⟩) 0 n) []:=by
  unfold OwnI
  exact World.ownsRow_made w _ n (Nat.le_refl _) (by simp only [maxLen];omega) (by rw [size_madeCells,Nat.mul_one])
set_option maxRecDepth 100000 in
set_option maxHeartbeats 4000000 in
theorem supplyDistancesP_s (At Ak:Option Addr) (nt nk ct ck:Nat) (l:List Ter) (m:List Knd) (a b c d e W H:Int) (Ax Ar Ay:Option Addr) (nx cx nr cr ny cy:Nat) (lt lr ld:List Int) (T Z:Int) (Au:Option Addr) (nu cu:Nat) (us:List Uni) (sd kd:Int) (Aq:Option Addr) (nq cq:Nat) (ls:List Int) (w:World) (hs:Spans w) (ht:Tab w) (hu:SpU w) (hB:BrdAt w At Ak nt nk l m (.slice Ax nx cx) (.slice Ar nr cr) (.slice Ay ny cy) lt lr ld) (hS:StaAt w (.slice Au nu cu) us) (hq:RdI w (.slice Aq nq cq) ls) (hql:ls.length ≤ 1048576) :
    Calls Tryz.prog 22 #[bv (.slice At nt ct) (.slice Ak nk ck) a b c d e W H (.slice Ax nx cx) (.slice Ar nr cr) (.slice Ay ny cy),sv T Z (.slice Au nu cu),.int .i64 sd,.int .i64 kd,.slice Aq nq cq] w (ListPostI ((((brdOk ⟨l,m,a,b,c,d,e⟩ W H lt lr ld && staOk ⟨l,m,a,b,c,d,e⟩ W H lt T Z us) && spB 0 1 sd) && srcOk W H ls) && inB kd nk) (farL (fun j=>pasB l m lt lr ld W us sd kd.toNat j) W H (srcN ls) lt.length) w):=by
  have KA:Kp w ((w.alloc (.cells #[.slice At nt ct,.slice Ak nk ck,.int .i64 a,.int .i64 b,.int .i64 c,.int .i64 d,.int .i64 e,.int .i64 W,.int .i64 H,.slice Ax nx cx,.slice Ar nr cr,.slice Ay ny cy] 44)).alloc (.cells #[.int .i64 T,.int .i64 Z,.slice Au nu cu] 48)):=((Kp.refl w).alloc _).alloc _
  have hmk:m.length=nk:=hB.R.rk.1
  have H0:Hid (∀ w',Kp ((w.alloc (.cells #[.slice At nt ct,.slice Ak nk ck,.int .i64 a,.int .i64 b,.int .i64 c,.int .i64 d,.int .i64 e,.int .i64 W,.int .i64 H,.slice Ax nx cx,.slice Ar nr cr,.slice Ay ny cy] 44)).alloc (.cells #[.int .i64 T,.int .i64 Z,.slice Au nu cu] 48)) w'→World.rangeAt w' w.heap.size 0 [.slice At nt ct,.slice Ak nk ck,.int .i64 a,.int .i64 b,.int .i64 c,.int .i64 d,.int .i64 e,.int .i64 W,.int .i64 H,.slice Ax nx cx,.slice Ar nr cr,.slice Ay ny cy]∧World.rangeAt w' (w.heap.size + 1) 0 [.int .i64 T,.int .i64 Z,.slice Au nu cu]):=Lib.hid fun w' k=>by
      have r3:=range_fresh (w.alloc (.cells #[.slice At nt ct,.slice Ak nk ck,.int .i64 a,.int .i64 b,.int .i64 c,.int .i64 d,.int .i64 e,.int .i64 W,.int .i64 H,.slice Ax nx cx,.slice Ar nr cr,.slice Ay ny cy] 44)) [.int .i64 T,.int .i64 Z,.slice Au nu cu] 48
      rw [show (w.alloc (.cells #[.slice At nt ct,.slice Ak nk ck,.int .i64 a,.int .i64 b,.int .i64 c,.int .i64 d,.int .i64 e,.int .i64 W,.int .i64 H,.slice Ax nx cx,.slice Ar nr cr,.slice Ay ny cy] 44)).heap.size=w.heap.size + 1 by simp] at r3
      exact ⟨range_keep (range_fresh w [.slice At nt ct,.slice Ak nk ck,.int .i64 a,.int .i64 b,.int .i64 c,.int .i64 d,.int .i64 e,.int .i64 W,.int .i64 H,.slice Ax nx cx,.slice Ar nr cr,.slice Ay ny cy] 44) (((Kp.refl _).alloc _).trans k),range_keep r3 k⟩
  have I12:Hid ((Tryz.prog.info? 44).map (·.size)=some 12):=Lib.hid (by kernel_rfl)
  have I3:Hid ((Tryz.prog.info? 48).map (·.size)=some 3):=Lib.hid (by kernel_rfl)
  have I17:Hid ((Tryz.prog.info? 80).map (·.size)=some 17):=Lib.hid (by kernel_rfl)
  have I4:Hid ((Tryz.prog.info? 103).map (·.size)=some 4):=Lib.hid (by kernel_rfl)
  have I5:Hid ((Tryz.prog.info? 42).map (·.size)=some 5):=Lib.hid (by kernel_rfl)
  have I7:Hid ((Tryz.prog.info? 41).map (·.size)=some 7):=Lib.hid (by kernel_rfl)
  have HSP:=Lib.hid hs
  have HT:=Lib.hid ht
  have HU:=Lib.hid hu
  have HB:=Lib.hid hB
  have HS:=Lib.hid hS
  have HQ:=Lib.hid hq
  have CSU:=Lib.hid (fun (w:World) hs ht hu hB hS hq=>supplierOf_any At Ak nt nk ct ck l m a b c d e W H (.slice Ax nx cx) (.slice Ar nr cr) (.slice Ay ny cy) lt lr ld T Z (.slice Au nu cu) us sd Aq nq cq ls w hs ht hu hB hS hq hql)
  have CK:Hid (∀ w,Calls Tryz.prog 62 #[rv (.slice At nt ct) (.slice Ak nk ck) a b c d e,.int .i64 kd] w fun e' w'=>e'=.returned (.bool (inB kd nk))∧Kp w w'):=Lib.hid fun w=>isKind_any (.slice At nt ct) Ak nk ck a b c d e kd w
  clear hs ht hu hB hS hq hql
  cases hg:((brdOk ⟨l,m,a,b,c,d,e⟩ W H lt lr ld && staOk ⟨l,m,a,b,c,d,e⟩ W H lt T Z us) && spB 0 1 sd) && srcOk W H ls
  · rw [hg,if_neg Bool.false_ne_true] at CSU
    rw [Bool.false_and]
    clear hg CK
    go_enter Tryz.func22,Tryz.ntmps22
    go_upto_region 1 with (fail)
    generalize ((w.alloc (.cells #[.slice At nt ct,.slice Ak nk ck,.int .i64 a,.int .i64 b,.int .i64 c,.int .i64 d,.int .i64 e,.int .i64 W,.int .i64 H,.slice Ax nx cx,.slice Ar nr cr,.slice Ay ny cy] 44)).alloc (.cells #[.int .i64 T,.int .i64 Z,.slice Au nu cu] 48))=W0 at *
    obtain ⟨s12,s3⟩:=H0.out W0 (Kp.refl _)
    go_wp2_with (first | ((with_reducible refine load_m s12 Tryz.underlying44 ?_ ?_ ?_ ?_ ?_);exact I12.out;rfl;rfl;rfl) | ((with_reducible refine load_m s3 Tryz.underlying48 ?_ ?_ ?_ ?_ ?_);exact I3.out;rfl;rfl;rfl))
    refine (CSU.out _ (HSP.out.keep KA) (HT.out.keep KA) (HU.out.keep KA) (HB.out.keep KA) (HS.out.keep KA) (HQ.out.keep KA)).mono ?_
    rintro e1 w1 ⟨rfl,q1⟩
    have K1:=KA.trans q1
    clear s12 s3
    have t17:World.there (w1.alloc (.cells #[.slice none 0 0,.slice none 0 0,.int .i64 0,.int .i64 0,.int .i64 0,.int .i64 0,.int .i64 0,.int .i64 0,.int .i64 0,.slice none 0 0,.slice none 0 0,.slice none 0 0,.int .i64 0,.int .i64 0,.slice none 0 0,.int .i64 0,.slice none 0 0] 80)) w1.heap.size 0 (#[.slice none 0 0,.slice none 0 0,.int .i64 0,.int .i64 0,.int .i64 0,.int .i64 0,.int .i64 0,.int .i64 0,.int .i64 0,.slice none 0 0,.slice none 0 0,.slice none 0 0,.int .i64 0,.int .i64 0,.slice none 0 0,.int .i64 0,.slice none 0 0]:Array Value).size:=there_fresh w1 [.slice none 0 0,.slice none 0 0,.int .i64 0,.int .i64 0,.int .i64 0,.int .i64 0,.int .i64 0,.int .i64 0,.int .i64 0,.slice none 0 0,.slice none 0 0,.slice none 0 0,.int .i64 0,.int .i64 0,.slice none 0 0,.int .i64 0,.slice none 0 0] 80
    obtain ⟨W9,hW9⟩:∃ W9,W9=(w1.alloc (.cells #[.slice none 0 0,.slice none 0 0,.int .i64 0,.int .i64 0,.int .i64 0,.int .i64 0,.int .i64 0,.int .i64 0,.int .i64 0,.slice none 0 0,.slice none 0 0,.slice none 0 0,.int .i64 0,.int .i64 0,.slice none 0 0,.int .i64 0,.slice none 0 0] 80)).setCells w1.heap.size 0 (#[.slice none 0 0,.slice none 0 0,.int .i64 0,.int .i64 0,.int .i64 0,.int .i64 0,.int .i64 0,.int .i64 0,.int .i64 0,.slice none 0 0,.slice none 0 0,.slice none 0 0,.int .i64 0,.int .i64 0,.slice none 0 0,.int .i64 0,.slice none 0 0]:Array Value).toList:=⟨_,rfl⟩
    have r9:World.rangeAt W9 w1.heap.size 0 [.slice none 0 0,.slice none 0 0,.int .i64 0,.int .i64 0,.int .i64 0,.int .i64 0,.int .i64 0,.int .i64 0,.int .i64 0,.slice none 0 0,.slice none 0 0,.slice none 0 0,.int .i64 0,.int .i64 0,.slice none 0 0,.int .i64 0,.slice none 0 0]:=by
      rw [hW9]
      exact World.rangeAt_setCells_same _ _ _ _ t17
    have K9:Kp w W9:=by
      have hz:=K1.size
      rw [hW9]
      exact kp_cells (by omega) _ _ _ (K1.alloc _)
    have kW0:Kp W0 W9:=by
      have hz:=q1.size
      rw [hW9]
      exact kp_cells (by omega) _ _ _ (q1.alloc _)
    have HW9:=Lib.hid hW9
    clear hW9
    obtain ⟨s12,s3⟩:=H0.out W9 kW0
    have s5:=range_part s12 7 5
    have s7:=range_part s12 0 7
    go_wp2_with (first | ((with_reducible refine store_m t17 ?_ ?_ ?_ ?_ ?_ ?_);exact I17.out;(simp [Value.oneCell']);rfl;rfl;rfl;rw [← HW9.out]) | ((with_reducible refine load_m r9 Tryz.underlying80 ?_ ?_ ?_ ?_ ?_);exact I17.out;rfl;rfl;rfl) | ((with_reducible refine load_m s7 Tryz.underlying41 ?_ ?_ ?_ ?_ ?_);exact I7.out;rfl;rfl;rfl) | ((with_reducible refine load_m s12 Tryz.underlying44 ?_ ?_ ?_ ?_ ?_);exact I12.out;rfl;rfl;rfl) | ((with_reducible refine load_m s3 Tryz.underlying48 ?_ ?_ ?_ ?_ ?_);exact I3.out;rfl;rfl;rfl) | ((with_reducible refine load_m s5 Tryz.underlying42 ?_ ?_ ?_ ?_ ?_);exact I5.out;rfl;rfl;rfl))
    go_ret2
    exact ListPostI.no K9
  · rw [hg,if_pos rfl] at CSU
    rw [Bool.true_and]
    simp only [Bool.and_eq_true] at hg
    obtain ⟨⟨⟨hok,hst⟩,hsd0⟩,hsr⟩:=hg
    have hsd:sd=0 ∨ sd=1:=by
      simp only [spB,Bool.and_eq_true,decide_eq_true_iff] at hsd0
      omega
    obtain ⟨p1,p2,p3,p4⟩:=mapOk_side (brdOk_map hok)
    have hlen:=mapOk_len (brdOk_map hok)
    have hA:=area_bd p1 p2 p3 p4
    have hN2:lt.length ≤ 100:=by omega
    have hN1:1 ≤ lt.length:=by omega
    cases hkd:inB kd nk
    · rw [hkd] at CK
      clear hok hst hsd0 hsd hsr hlen hkd p1 p2 p3 p4
      go_enter Tryz.func22,Tryz.ntmps22
      go_upto_region 1 with (fail)
      generalize ((w.alloc (.cells #[.slice At nt ct,.slice Ak nk ck,.int .i64 a,.int .i64 b,.int .i64 c,.int .i64 d,.int .i64 e,.int .i64 W,.int .i64 H,.slice Ax nx cx,.slice Ar nr cr,.slice Ay ny cy] 44)).alloc (.cells #[.int .i64 T,.int .i64 Z,.slice Au nu cu] 48))=W0 at *
      obtain ⟨s12,s3⟩:=H0.out W0 (Kp.refl _)
      go_wp2_with (first | ((with_reducible refine load_m s12 Tryz.underlying44 ?_ ?_ ?_ ?_ ?_);exact I12.out;rfl;rfl;rfl) | ((with_reducible refine load_m s3 Tryz.underlying48 ?_ ?_ ?_ ?_ ?_);exact I3.out;rfl;rfl;rfl))
      refine (CSU.out _ (HSP.out.keep KA) (HT.out.keep KA) (HU.out.keep KA) (HB.out.keep KA) (HS.out.keep KA) (HQ.out.keep KA)).mono ?_
      rintro e1 w1 ⟨rfl,q1⟩
      have K1:=KA.trans q1
      clear s12 s3
      have t17:World.there (w1.alloc (.cells #[.slice none 0 0,.slice none 0 0,.int .i64 0,.int .i64 0,.int .i64 0,.int .i64 0,.int .i64 0,.int .i64 0,.int .i64 0,.slice none 0 0,.slice none 0 0,.slice none 0 0,.int .i64 0,.int .i64 0,.slice none 0 0,.int .i64 0,.slice none 0 0] 80)) w1.heap.size 0 (#[.slice At nt ct,.slice Ak nk ck,.int .i64 a,.int .i64 b,.int .i64 c,.int .i64 d,.int .i64 e,.int .i64 W,.int .i64 H,.slice Ax nx cx,.slice Ar nr cr,.slice Ay ny cy,.int .i64 T,.int .i64 Z,.slice Au nu cu,.int .i64 sd,.slice Aq nq cq]:Array Value).size:=there_fresh w1 [.slice none 0 0,.slice none 0 0,.int .i64 0,.int .i64 0,.int .i64 0,.int .i64 0,.int .i64 0,.int .i64 0,.int .i64 0,.slice none 0 0,.slice none 0 0,.slice none 0 0,.int .i64 0,.int .i64 0,.slice none 0 0,.int .i64 0,.slice none 0 0] 80
      obtain ⟨W9,hW9⟩:∃ W9,W9=(w1.alloc (.cells #[.slice none 0 0,.slice none 0 0,.int .i64 0,.int .i64 0,.int .i64 0,.int .i64 0,.int .i64 0,.int .i64 0,.int .i64 0,.slice none 0 0,.slice none 0 0,.slice none 0 0,.int .i64 0,.int .i64 0,.slice none 0 0,.int .i64 0,.slice none 0 0] 80)).setCells w1.heap.size 0 (#[.slice At nt ct,.slice Ak nk ck,.int .i64 a,.int .i64 b,.int .i64 c,.int .i64 d,.int .i64 e,.int .i64 W,.int .i64 H,.slice Ax nx cx,.slice Ar nr cr,.slice Ay ny cy,.int .i64 T,.int .i64 Z,.slice Au nu cu,.int .i64 sd,.slice Aq nq cq]:Array Value).toList:=⟨_,rfl⟩
      have r9:World.rangeAt W9 w1.heap.size 0 [.slice At nt ct,.slice Ak nk ck,.int .i64 a,.int .i64 b,.int .i64 c,.int .i64 d,.int .i64 e,.int .i64 W,.int .i64 H,.slice Ax nx cx,.slice Ar nr cr,.slice Ay ny cy,.int .i64 T,.int .i64 Z,.slice Au nu cu,.int .i64 sd,.slice Aq nq cq]:=by
        rw [hW9]
        exact World.rangeAt_setCells_same _ _ _ _ t17
      have K9:Kp w W9:=by
        have hz:=K1.size
        rw [hW9]
        exact kp_cells (by omega) _ _ _ (K1.alloc _)
      have kW0:Kp W0 W9:=by
        have hz:=q1.size
        rw [hW9]
        exact kp_cells (by omega) _ _ _ (q1.alloc _)
      have HW9:=Lib.hid hW9
      clear hW9
      obtain ⟨s12,s3⟩:=H0.out W9 kW0
      have s5:=range_part s12 7 5
      have s7:=range_part s12 0 7
      go_wp2_with (first | ((with_reducible refine store_m t17 ?_ ?_ ?_ ?_ ?_ ?_);exact I17.out;(simp [Value.oneCell']);rfl;rfl;rfl;rw [← HW9.out]) | ((with_reducible refine load_m r9 Tryz.underlying80 ?_ ?_ ?_ ?_ ?_);exact I17.out;rfl;rfl;rfl) | ((with_reducible refine load_m s7 Tryz.underlying41 ?_ ?_ ?_ ?_ ?_);exact I7.out;rfl;rfl;rfl) | ((with_reducible refine load_m s12 Tryz.underlying44 ?_ ?_ ?_ ?_ ?_);exact I12.out;rfl;rfl;rfl) | ((with_reducible refine load_m s3 Tryz.underlying48 ?_ ?_ ?_ ?_ ?_);exact I3.out;rfl;rfl;rfl) | ((with_reducible refine load_m s5 Tryz.underlying42 ?_ ?_ ?_ ?_ ?_);exact I5.out;rfl;rfl;rfl))
      refine (CK.out _).mono ?_
      rintro e2 w2 ⟨rfl,q2⟩
      go_wp2_with fail
      go_ret2
      exact ListPostI.no (K9.trans q2)
    · rw [hkd] at CK
      obtain ⟨k,rfl,hkn⟩:∃ k:Nat,kd=k∧k < nk:=by
        simp only [inB,Bool.and_eq_true,decide_eq_true_iff] at hkd
        exact ⟨kd.toNat,by omega,by omega⟩
      rw [Int.toNat_natCast]
      obtain ⟨hsn,hsb,hsd2⟩:=srcOk_nat hsr
      have hsb':=hsb lt.length hlen
      have hsl:(srcN ls).length ≤ 100:=by
        have h1:=(srcOk_parts hsr).1
        unfold srcN
        rw [List.length_map]
        omega
      have HSN:=Lib.hid hsn
      have CX:=Lib.hid (fun (w:World) ht hB hS hq=>waysFor_any At Ak nt nk ct ck l m a b c d e W H (.slice Ax nx cx) (.slice Ar nr cr) (.slice Ay ny cy) lt lr ld T Z (.slice Au nu cu) us sd Aq nq cq (srcN ls) k none 0 0 [] w ht hB hS hok hst (by omega) hq hsb' hsl hsd ⟨none,0,rfl,fun h=>by cases h⟩ (by simp))
      rw [bl_nil] at CX
      have CCH:Hid (∀ w,Calls Tryz.prog 63 #[mp W H (.slice Ax nx cx) (.slice Ar nr cr) (.slice Ay ny cy)] w fun e w'=>e=.returned (.int .i64 (lt.length:Int))∧Kp w w'):=Lib.hid fun w=>by
        have h:=countHexes_any W H (.slice Ax nx cx) (.slice Ar nr cr) (.slice Ay ny cy) w p1 p2 p3 p4
        rw [← hlen] at h
        exact h
      have HWL:Hid (∀ j,j < lt.length→(farL (fun j=>pasB l m lt lr ld W us sd k j) W H (srcN ls) lt.length)[j]?=some (((wayN (fun j=>pasB l m lt lr ld W us sd k j) W H (srcN ls) lt.length j).length:Int) - 1)∧(wayN (fun j=>pasB l m lt lr ld W us sd k j) W H (srcN ls) lt.length j).length ≤ 100):=Lib.hid fun j hj=>by
        have h:=way_far (ok:=(fun j=>pasB l m lt lr ld W us sd k j)) (src:=srcN ls) hlen hsb' j
        have h2:=farN_bd (ok:=(fun j=>pasB l m lt lr ld W us sd k j)) (src:=srcN ls) hlen hsb' j
        rw [h]
        exact ⟨farL_at hj,by omega⟩
      have hFLl:Hid ((farL (fun j=>pasB l m lt lr ld W us sd k j) W H (srcN ls) lt.length).length=lt.length):=Lib.hid (by simp [farL])
      obtain ⟨j0,hj0,hz0,hs0,hb0⟩:=info_parts infoInt
      have hmkD:=fun w=>mkIntsD lt.length (by omega) w
      generalize farL (fun j=>pasB l m lt lr ld W us sd k j) W H (srcN ls) lt.length=FL at *
      generalize wayN (fun j=>pasB l m lt lr ld W us sd k j) W H (srcN ls) lt.length=WN at *
      generalize lt.length=N at *
      clear hok hst hsd0 hsd hsr hlen hkd p1 p2 p3 p4 hsn hsb hsb' hsd2 hsl hA hkn
      go_enter Tryz.func22,Tryz.ntmps22
      go_upto_region 1 with (fail)
      generalize ((w.alloc (.cells #[.slice At nt ct,.slice Ak nk ck,.int .i64 a,.int .i64 b,.int .i64 c,.int .i64 d,.int .i64 e,.int .i64 W,.int .i64 H,.slice Ax nx cx,.slice Ar nr cr,.slice Ay ny cy] 44)).alloc (.cells #[.int .i64 T,.int .i64 Z,.slice Au nu cu] 48))=W0 at *
      obtain ⟨s12,s3⟩:=H0.out W0 (Kp.refl _)
      go_wp2_with (first | ((with_reducible refine load_m s12 Tryz.underlying44 ?_ ?_ ?_ ?_ ?_);exact I12.out;rfl;rfl;rfl) | ((with_reducible refine load_m s3 Tryz.underlying48 ?_ ?_ ?_ ?_ ?_);exact I3.out;rfl;rfl;rfl))
      refine (CSU.out _ (HSP.out.keep KA) (HT.out.keep KA) (HU.out.keep KA) (HB.out.keep KA) (HS.out.keep KA) (HQ.out.keep KA)).mono ?_
      rintro e1 w1 ⟨rfl,q1⟩
      have K1:=KA.trans q1
      clear s12 s3
      have t17:World.there (w1.alloc (.cells #[.slice none 0 0,.slice none 0 0,.int .i64 0,.int .i64 0,.int .i64 0,.int .i64 0,.int .i64 0,.int .i64 0,.int .i64 0,.slice none 0 0,.slice none 0 0,.slice none 0 0,.int .i64 0,.int .i64 0,.slice none 0 0,.int .i64 0,.slice none 0 0] 80)) w1.heap.size 0 (#[.slice At nt ct,.slice Ak nk ck,.int .i64 a,.int .i64 b,.int .i64 c,.int .i64 d,.int .i64 e,.int .i64 W,.int .i64 H,.slice Ax nx cx,.slice Ar nr cr,.slice Ay ny cy,.int .i64 T,.int .i64 Z,.slice Au nu cu,.int .i64 sd,.slice Aq nq cq]:Array Value).size:=there_fresh w1 [.slice none 0 0,.slice none 0 0,.int .i64 0,.int .i64 0,.int .i64 0,.int .i64 0,.int .i64 0,.int .i64 0,.int .i64 0,.slice none 0 0,.slice none 0 0,.slice none 0 0,.int .i64 0,.int .i64 0,.slice none 0 0,.int .i64 0,.slice none 0 0] 80
      obtain ⟨W9,hW9⟩:∃ W9,W9=(w1.alloc (.cells #[.slice none 0 0,.slice none 0 0,.int .i64 0,.int .i64 0,.int .i64 0,.int .i64 0,.int .i64 0,.int .i64 0,.int .i64 0,.slice none 0 0,.slice none 0 0,.slice none 0 0,.int .i64 0,.int .i64 0,.slice none 0 0,.int .i64 0,.slice none 0 0] 80)).setCells w1.heap.size 0 (#[.slice At nt ct,.slice Ak nk ck,.int .i64 a,.int .i64 b,.int .i64 c,.int .i64 d,.int .i64 e,.int .i64 W,.int .i64 H,.slice Ax nx cx,.slice Ar nr cr,.slice Ay ny cy,.int .i64 T,.int .i64 Z,.slice Au nu cu,.int .i64 sd,.slice Aq nq cq]:Array Value).toList:=⟨_,rfl⟩
      have r9:World.rangeAt W9 w1.heap.size 0 [.slice At nt ct,.slice Ak nk ck,.int .i64 a,.int .i64 b,.int .i64 c,.int .i64 d,.int .i64 e,.int .i64 W,.int .i64 H,.slice Ax nx cx,.slice Ar nr cr,.slice Ay ny cy,.int .i64 T,.int .i64 Z,.slice Au nu cu,.int .i64 sd,.slice Aq nq cq]:=by
        rw [hW9]
        exact World.rangeAt_setCells_same _ _ _ _ t17
      have K9:Kp w W9:=by
        have hz:=K1.size
        rw [hW9]
        exact kp_cells (by omega) _ _ _ (K1.alloc _)
      have kW0:Kp W0 W9:=by
        have hz:=q1.size
        rw [hW9]
        exact kp_cells (by omega) _ _ _ (q1.alloc _)
      have HW9:=Lib.hid hW9
      clear hW9
      obtain ⟨s12,s3⟩:=H0.out W9 kW0
      have s5:=range_part s12 7 5
      have s7:=range_part s12 0 7
      go_wp2_with (first | ((with_reducible refine store_m t17 ?_ ?_ ?_ ?_ ?_ ?_);exact I17.out;(simp [Value.oneCell']);rfl;rfl;rfl;rw [← HW9.out]) | ((with_reducible refine load_m r9 Tryz.underlying80 ?_ ?_ ?_ ?_ ?_);exact I17.out;rfl;rfl;rfl) | ((with_reducible refine load_m s7 Tryz.underlying41 ?_ ?_ ?_ ?_ ?_);exact I7.out;rfl;rfl;rfl) | ((with_reducible refine load_m s12 Tryz.underlying44 ?_ ?_ ?_ ?_ ?_);exact I12.out;rfl;rfl;rfl) | ((with_reducible refine load_m s3 Tryz.underlying48 ?_ ?_ ?_ ?_ ?_);exact I3.out;rfl;rfl;rfl) | ((with_reducible refine load_m s5 Tryz.underlying42 ?_ ?_ ?_ ?_ ?_);exact I5.out;rfl;rfl;rfl))
      refine (CK.out _).mono ?_
      rintro e2 w2 ⟨rfl,q2⟩
      have k2:=kW0.trans q2
      have K2:=K9.trans q2
      have r92:=range_keep r9 q2
      clear r9 t17 s12 s3 s5 s7
      have r9:=r92
      obtain ⟨s12,s3⟩:=H0.out w2 k2
      have s5:=range_part s12 7 5
      have s7:=range_part s12 0 7
      go_wp2_with (first | ((with_reducible refine load_m r9 Tryz.underlying80 ?_ ?_ ?_ ?_ ?_);exact I17.out;rfl;rfl;rfl) | ((with_reducible refine load_m s7 Tryz.underlying41 ?_ ?_ ?_ ?_ ?_);exact I7.out;rfl;rfl;rfl) | ((with_reducible refine load_m s12 Tryz.underlying44 ?_ ?_ ?_ ?_ ?_);exact I12.out;rfl;rfl;rfl) | ((with_reducible refine load_m s3 Tryz.underlying48 ?_ ?_ ?_ ?_ ?_);exact I3.out;rfl;rfl;rfl) | ((with_reducible refine load_m s5 Tryz.underlying42 ?_ ?_ ?_ ?_ ?_);exact I5.out;rfl;rfl;rfl))
      refine (CCH.out _).mono ?_
      rintro e4 w4 ⟨rfl,q4⟩
      have k4:=k2.trans q4
      have K4:=K2.trans q4
      have r94:=range_keep r92 q4
      clear r9 r92 s12 s3 s5 s7
      have kM:Kp w4 (w4.alloc (.cells (madeCells #[.int .i64 0] N) 3)):=(Kp.refl w4).alloc _
      have HO0:=Lib.hid (ownI_madeD w4 N (by omega))
      have r9:=range_keep r94 kM
      have zM:(w4.alloc (.cells (madeCells #[.int .i64 0] N) 3)).heap.size=w4.heap.size + 1:=by simp
      have HZM:=Lib.hid zM
      clear zM
      go_upto_region 5 with (fail)
      clear hmkD
      generalize w4.alloc (.cells (madeCells #[.int .i64 0] N) 3)=W4 at *
      go_wp2_with (first | ((with_reducible refine load_m r9 Tryz.underlying80 ?_ ?_ ?_ ?_ ?_);exact I17.out;rfl;rfl;rfl))
      refine (CX.out _ (HT.out.keep (K4.trans kM)) (HB.out.keep (K4.trans kM)) (HS.out.keep (K4.trans kM)) (by rw [HSN.out];exact HQ.out.keep (K4.trans kM))).mono ?_
      rintro e5 w5 ⟨g,rfl,hg4,hrows,q5⟩
      have HRW:Hid (∀ j,j < N→∃ A c,w5.cell? ⟨g,j,none⟩=some (.slice A (WN j).length c)):=Lib.hid fun j hj=>by
        obtain ⟨z,h1,h2⟩:=hrows j hj
        obtain ⟨A,c,h3⟩:=h2.slice
        exact ⟨A,c,by rw [h1,h3,ints_len]⟩
      have HO5:=Lib.hid (HO0.out.keep q5)
      have K45:=kM.trans q5
      have hz5:=q5.size
      clear hrows HO0 r9 r94 q5
      go_wp2_with fail
      go_loopw [14,16,42] (fun v _ i wx=>∃ (V:Value) (q:Nat),V=v∧q ≤ N∧i=.int .i64 q∧Hid (OwnI wx w4.heap.size v (FL.take q))∧Hid (∀ j,j < N→wx.cell? ⟨g,j,none⟩=w5.cell? ⟨g,j,none⟩)∧Hid (v.ownBlock ≠ some g∧g < wx.heap.size∧w4.heap.size ≤ wx.heap.size)∧Kp w4 wx) (fun _ _ i _=>N - (intOf i).toNat)
      case atStart=>exact ⟨_,0,rfl,by omega,rfl,HO5,Lib.hid (fun _ _=>rfl),Lib.hid ⟨fun e=>by have h9:w4.heap.size=g:=Option.some.inj e;have:=HZM.out;omega,by
        obtain ⟨A,c,h⟩:=HRW.out 0 (by omega)
        exact World.block_lt_of_cell? w5 _ h,K45.size⟩,K45⟩
      case round =>
        clear HO5 K45
        obtain ⟨V,q,hV,hqn,rfl,HO,HC,HG,kr⟩:=hrel
        subst hV
        by_cases hlt:q < N
        · have hlt':(q:Int) < N:=by omega
          obtain ⟨A9,c9,hcz⟩:=HRW.out q hlt
          have hcq:=(HC.out q hlt).trans hcz
          obtain ⟨hfq,hwl⟩:=HWL.out q hlt
          have HTK:Hid (FL.take (q + 1)=FL.take q ++ [((WN q).length:Int) - 1]):=Lib.hid (by rw [List.take_add_one,hfq];rfl)
          have hln:Hid ((FL.take q).length ≤ 100):=Lib.hid (by rw [List.length_take];omega)
          have CST:=Lib.hid (fun w=>stepsOf_any A9 (WN q).length c9 w (by omega))
          generalize (WN q).length=LN at *
          generalize (LN:Int) - 1=X at *
          clear hcz hfq hwl
          go_wp2_with fail
          refine (CST.out _).mono ?_
          rintro e6 w6 ⟨rfl,rfl⟩
          go_wp2_with (at_builtin;refine wpList_append_own_at _ rfl (.tmp 46) (.tmp 49) 26 rfl w4.heap.size 3 j0 (.int .i64 0) 1 8 Tryz.underlying26 hj0 hz0 hs0 hb0 rfl (by decide) _ (FL.take q).length (cellsI (FL.take q)) rfl (World.ownsRow.alloc HO.out _) ⟨wr.heap.size,0,none⟩ 1 1 [.int .i64 X] rfl rfl (one_cell _ _ _) (by simp [Value.oneCell']) (by have:=hln.out;simp only [maxLen];omega) (by have:=hln.out;omega) (by have:=HG.out.2.2;simp;omega) ?_;intro v' w3 hown2 hgrow2 hnil2 hat2;clear hnil2;have K5:Kp w4 w3:=(kr.alloc _).grown hgrow2 (fun k e=>(World.ownsRow.lt HO.out k e).1);have O3:=Lib.hid (OwnI.snoc (x:=X) hown2);have HC3:Hid (∀ j,j < N→w3.cell? ⟨g,j,none⟩=w5.cell? ⟨g,j,none⟩):=Lib.hid (fun j hj=>by
            obtain ⟨A8,c8,h8⟩:=HRW.out j hj
            rw [h8]
            exact hgrow2.cell (((Kp.refl wr).alloc _).cell ((HC.out j hj).trans h8)) (fun e=>HG.out.1 e.symm));have HG3:Hid (Value.ownBlock v' ≠ some g∧g < w3.heap.size∧w4.heap.size ≤ w3.heap.size):=Lib.hid ⟨by
            rcases hat2 with h | h
            · rw [h];exact HG.out.1
            · rw [h];intro e;have h7:=Option.some.inj e;have h6:=HG.out.2.1;simp at h7;omega,by have h6:=HG.out.2.1;have h7:=hgrow2.size;simp at h7;omega,K5.size⟩;clear hown2 hgrow2 hat2)
          go_roundw
          case rel=>exact ⟨_,q + 1,rfl,by omega,by go_num,by rw [HTK.out];exact O3,HC3,HG3,K5⟩
          case measure=>simp [intOf];omega
        · obtain rfl:N=q:=by omega
          have HO9:Hid (OwnI wr w4.heap.size V FL):=Lib.hid (by
            have h:=HO.out
            rw [List.take_of_length_le (by rw [hFLl.out];omega)] at h
            exact h)
          go_wp2_with fail
          go_ret2
          exact ⟨_,rfl,HO9.out.base (b:=w.heap.size) K4.size,K4.trans kr⟩
theorem supplyDistancesP_any (At Ak:Option Addr) (nt nk ct ck:Nat) (l:List Ter) (m:List Knd) (a b c d e W H:Int) (x r y:Value) (lt lr ld:List Int) (T Z:Int) (u:Value) (us:List Uni) (sd kd:Int) (Aq:Option Addr) (nq cq:Nat) (ls:List Int) (w:World) (hs:Spans w) (ht:Tab w) (hu:SpU w) (hB:BrdAt w At Ak nt nk l m x r y lt lr ld) (hS:StaAt w u us) (hq:RdI w (.slice Aq nq cq) ls) (hql:ls.length ≤ 1048576) :
    Calls Tryz.prog 22 #[bv (.slice At nt ct) (.slice Ak nk ck) a b c d e W H x r y,sv T Z u,.int .i64 sd,.int .i64 kd,.slice Aq nq cq] w (ListPostI ((((brdOk ⟨l,m,a,b,c,d,e⟩ W H lt lr ld && staOk ⟨l,m,a,b,c,d,e⟩ W H lt T Z us) && spB 0 1 sd) && srcOk W H ls) && inB kd nk) (farL (fun j=>pasB l m lt lr ld W us sd kd.toNat j) W H (srcN ls) lt.length) w):=by
  obtain ⟨Ax,cx,rfl,_⟩:=hB.L.rt
  obtain ⟨Ar,cr,rfl,_⟩:=hB.L.rr
  obtain ⟨Ay,cy,rfl,_⟩:=hB.L.rd
  obtain ⟨Au,cu,rfl,_⟩:=hS.rd
  exact supplyDistancesP_s At Ak nt nk ct ck l m a b c d e W H Ax Ar Ay lt.length cx lr.length cr ld.length cy lt lr ld T Z Au us.length cu us sd kd Aq nq cq ls w hs ht hu hB hS hq hql
set_option maxRecDepth 100000 in
set_option maxHeartbeats 4000000 in
theorem specSupplyDistances_any (At Ak:Option Addr) (nt nk ct ck:Nat) (l:List Ter) (m:List Knd) (a b c d e W H:Int) (x r y:Value) (lt lr ld:List Int) (T Z:Int) (u:Value) (us:List Uni) (sd kd:Int) (Aq:Option Addr) (nq cq:Nat) (ls:List Int) (w:World) (hB:BrdAt w At Ak nt nk l m x r y lt lr ld) (hS:StaAt w u us) (hq:RdI w (.slice Aq nq cq) ls) (hql:ls.length ≤ 1048576) :
    Calls Tryz.prog 20 #[bv (.slice At nt ct) (.slice Ak nk ck) a b c d e W H x r y,sv T Z u,.int .i64 sd,.int .i64 kd,.slice Aq nq cq] w (ListPostI ((((brdOk ⟨l,m,a,b,c,d,e⟩ W H lt lr ld && staOk ⟨l,m,a,b,c,d,e⟩ W H lt T Z us) && spB 0 1 sd) && srcOk W H ls) && inB kd nk) (farL (fun j=>pasB l m lt lr ld W us sd kd.toNat j) W H (srcN ls) lt.length) w):=by
  have KA:Kp w ((w.alloc (.cells #[.slice At nt ct,.slice Ak nk ck,.int .i64 a,.int .i64 b,.int .i64 c,.int .i64 d,.int .i64 e,.int .i64 W,.int .i64 H,x,r,y] 44)).alloc (.cells #[.int .i64 T,.int .i64 Z,u] 48)):=((Kp.refl w).alloc _).alloc _
  have hmk:m.length=nk:=hB.R.rk.1
  have hnq:ls.length=nq:=by
    obtain ⟨A',c',e1,_⟩:=hq
    simp only [Value.slice.injEq] at e1
    exact e1.2.1.symm
  have H0:Hid (∀ w',Kp ((w.alloc (.cells #[.slice At nt ct,.slice Ak nk ck,.int .i64 a,.int .i64 b,.int .i64 c,.int .i64 d,.int .i64 e,.int .i64 W,.int .i64 H,x,r,y] 44)).alloc (.cells #[.int .i64 T,.int .i64 Z,u] 48)) w'→World.rangeAt w' w.heap.size 0 [.slice At nt ct,.slice Ak nk ck,.int .i64 a,.int .i64 b,.int .i64 c,.int .i64 d,.int .i64 e,.int .i64 W,.int .i64 H,x,r,y]∧World.rangeAt w' (w.heap.size + 1) 0 [.int .i64 T,.int .i64 Z,u]):=Lib.hid fun w' k=>by
      have r3:=range_fresh (w.alloc (.cells #[.slice At nt ct,.slice Ak nk ck,.int .i64 a,.int .i64 b,.int .i64 c,.int .i64 d,.int .i64 e,.int .i64 W,.int .i64 H,x,r,y] 44)) [.int .i64 T,.int .i64 Z,u] 48
      rw [show (w.alloc (.cells #[.slice At nt ct,.slice Ak nk ck,.int .i64 a,.int .i64 b,.int .i64 c,.int .i64 d,.int .i64 e,.int .i64 W,.int .i64 H,x,r,y] 44)).heap.size=w.heap.size + 1 by simp] at r3
      exact ⟨range_keep (range_fresh w [.slice At nt ct,.slice Ak nk ck,.int .i64 a,.int .i64 b,.int .i64 c,.int .i64 d,.int .i64 e,.int .i64 W,.int .i64 H,x,r,y] 44) (((Kp.refl _).alloc _).trans k),range_keep r3 k⟩
  have I12:Hid ((Tryz.prog.info? 44).map (·.size)=some 12):=Lib.hid (by kernel_rfl)
  have I3:Hid ((Tryz.prog.info? 48).map (·.size)=some 3):=Lib.hid (by kernel_rfl)
  have I5:Hid ((Tryz.prog.info? 42).map (·.size)=some 5):=Lib.hid (by kernel_rfl)
  have HB:=Lib.hid hB
  have HS:=Lib.hid hS
  have HQ:=Lib.hid hq
  have CG:=Lib.hid (fun (w:World) hB hS=>sGood_any At Ak nt nk ct ck l m a b c d e W H x r y lt lr ld T Z u us w hB hS)
  have CL:Hid (∀ w,Calls Tryz.prog 47 #[.int .i64 sd,.int .i64 0,.int .i64 1] w fun e w'=>e=.returned (.bool (spB 0 1 sd))∧Kp w w'):=Lib.hid fun w=>(l1In_sp sd 0 1 w).mono fun _ _ h=>⟨h.1,h.2 ▸ Kp.refl _⟩
  have CK:Hid (∀ w,Calls Tryz.prog 47 #[.int .i64 kd,.int .i64 0,.int .i64 ((nk:Int) - 1)] w fun e w'=>e=.returned (.bool (inB kd nk))∧Kp w w'):=Lib.hid fun w=>(l1In_lt kd (nk:Int) ((nk:Int) - 1) w rfl).mono fun _ _ h=>⟨h.1,h.2 ▸ Kp.refl _⟩
  rw [show ((((brdOk ⟨l,m,a,b,c,d,e⟩ W H lt lr ld && staOk ⟨l,m,a,b,c,d,e⟩ W H lt T Z us) && spB 0 1 sd) && srcOk W H ls) && inB kd nk)=((((brdOk ⟨l,m,a,b,c,d,e⟩ W H lt lr ld && staOk ⟨l,m,a,b,c,d,e⟩ W H lt T Z us) && spB 0 1 sd) && inB kd nk) && srcOk W H ls) by rw [Bool.and_right_comm]]
  cases hg:brdOk ⟨l,m,a,b,c,d,e⟩ W H lt lr ld && staOk ⟨l,m,a,b,c,d,e⟩ W H lt T Z us
  · rw [hg] at CG
    rw [Bool.false_and,Bool.false_and,Bool.false_and]
    clear hg hB hS hq hql hnq hmk CL CK
    go_enter Tryz.func20,Tryz.ntmps20
    go_upto_region 1 with (fail)
    generalize ((w.alloc (.cells #[.slice At nt ct,.slice Ak nk ck,.int .i64 a,.int .i64 b,.int .i64 c,.int .i64 d,.int .i64 e,.int .i64 W,.int .i64 H,x,r,y] 44)).alloc (.cells #[.int .i64 T,.int .i64 Z,u] 48))=W0 at *
    have k0:=Kp.refl W0
    obtain ⟨s12,s3⟩:=H0.out W0 k0
    have s5:=range_part s12 7 5
    have kc:=range_at s12 1 _ rfl
    go_wp2_with (first | ((with_reducible refine load_m s12 Tryz.underlying44 ?_ ?_ ?_ ?_ ?_);exact I12.out;rfl;rfl;rfl) | ((with_reducible refine load_m s3 Tryz.underlying48 ?_ ?_ ?_ ?_ ?_);exact I3.out;rfl;rfl;rfl) | ((with_reducible refine load_m s5 Tryz.underlying42 ?_ ?_ ?_ ?_ ?_);exact I5.out;rfl;rfl;rfl))
    refine (CG.out _ (HB.out.keep (KA.trans k0)) (HS.out.keep (KA.trans k0))).mono ?_
    rintro e1 w1 ⟨rfl,q1⟩
    have k1:=k0.trans q1
    clear q1 s12 s3 s5 kc
    obtain ⟨s12,s3⟩:=H0.out w1 k1
    have s5:=range_part s12 7 5
    have kc:=range_at s12 1 _ rfl
    go_wp2_with (first | ((with_reducible refine load_m s12 Tryz.underlying44 ?_ ?_ ?_ ?_ ?_);exact I12.out;rfl;rfl;rfl) | ((with_reducible refine load_m s3 Tryz.underlying48 ?_ ?_ ?_ ?_ ?_);exact I3.out;rfl;rfl;rfl) | ((with_reducible refine load_m s5 Tryz.underlying42 ?_ ?_ ?_ ?_ ?_);exact I5.out;rfl;rfl;rfl))
    go_ret2
    exact ListPostI.no (KA.trans k1)
  · rw [hg] at CG
    rw [Bool.true_and]
    simp only [Bool.and_eq_true] at hg
    obtain ⟨hok,hst⟩:=hg
    have hnk4:=(rulOk_nt (brdOk_rul hok)).2
    have hwk:IntKind.i64.wrap ((nk:Int) - 1)=(nk:Int) - 1:=IntWalk.i64_in _ (by omega)
    have CJ:=Lib.hid (fun (w:World) hq=>jSources_any At Ak nt nk ct ck l m a b c d e W H x r y lt lr ld Aq nq cq ls w hq hnq (by omega) hok)
    cases hsd0:spB 0 1 sd
    · rw [hsd0] at CL
      rw [Bool.false_and,Bool.false_and]
      clear hB hS hq hql hnq hmk hok hst hsd0 CK CJ
      go_enter Tryz.func20,Tryz.ntmps20
      go_upto_region 1 with (fail)
      generalize ((w.alloc (.cells #[.slice At nt ct,.slice Ak nk ck,.int .i64 a,.int .i64 b,.int .i64 c,.int .i64 d,.int .i64 e,.int .i64 W,.int .i64 H,x,r,y] 44)).alloc (.cells #[.int .i64 T,.int .i64 Z,u] 48))=W0 at *
      have k0:=Kp.refl W0
      obtain ⟨s12,s3⟩:=H0.out W0 k0
      have s5:=range_part s12 7 5
      have kc:=range_at s12 1 _ rfl
      go_wp2_with (first | ((with_reducible refine load_m s12 Tryz.underlying44 ?_ ?_ ?_ ?_ ?_);exact I12.out;rfl;rfl;rfl) | ((with_reducible refine load_m s3 Tryz.underlying48 ?_ ?_ ?_ ?_ ?_);exact I3.out;rfl;rfl;rfl) | ((with_reducible refine load_m s5 Tryz.underlying42 ?_ ?_ ?_ ?_ ?_);exact I5.out;rfl;rfl;rfl))
      refine (CG.out _ (HB.out.keep (KA.trans k0)) (HS.out.keep (KA.trans k0))).mono ?_
      rintro e1 w1 ⟨rfl,q1⟩
      have k1:=k0.trans q1
      clear q1 s12 s3 s5 kc
      obtain ⟨s12,s3⟩:=H0.out w1 k1
      have s5:=range_part s12 7 5
      have kc:=range_at s12 1 _ rfl
      go_wp2_with (first | ((with_reducible refine load_m s12 Tryz.underlying44 ?_ ?_ ?_ ?_ ?_);exact I12.out;rfl;rfl;rfl) | ((with_reducible refine load_m s3 Tryz.underlying48 ?_ ?_ ?_ ?_ ?_);exact I3.out;rfl;rfl;rfl) | ((with_reducible refine load_m s5 Tryz.underlying42 ?_ ?_ ?_ ?_ ?_);exact I5.out;rfl;rfl;rfl))
      refine (CL.out _).mono ?_
      rintro e2 w2 ⟨rfl,q2⟩
      have k2:=k1.trans q2
      clear k1 q2 s12 s3 s5 kc
      obtain ⟨s12,s3⟩:=H0.out w2 k2
      have s5:=range_part s12 7 5
      have kc:=range_at s12 1 _ rfl
      go_wp2_with (first | ((with_reducible refine load_m s12 Tryz.underlying44 ?_ ?_ ?_ ?_ ?_);exact I12.out;rfl;rfl;rfl) | ((with_reducible refine load_m s3 Tryz.underlying48 ?_ ?_ ?_ ?_ ?_);exact I3.out;rfl;rfl;rfl) | ((with_reducible refine load_m s5 Tryz.underlying42 ?_ ?_ ?_ ?_ ?_);exact I5.out;rfl;rfl;rfl))
      go_ret2
      exact ListPostI.no (KA.trans k2)
    · rw [hsd0] at CL
      rw [Bool.true_and]
      cases hkd:inB kd nk
      · rw [hkd] at CK
        rw [Bool.false_and]
        clear hB hS hq hql hnq hmk hok hst hsd0 hkd CJ
        go_enter Tryz.func20,Tryz.ntmps20
        go_upto_region 1 with (fail)
        generalize ((w.alloc (.cells #[.slice At nt ct,.slice Ak nk ck,.int .i64 a,.int .i64 b,.int .i64 c,.int .i64 d,.int .i64 e,.int .i64 W,.int .i64 H,x,r,y] 44)).alloc (.cells #[.int .i64 T,.int .i64 Z,u] 48))=W0 at *
        have k0:=Kp.refl W0
        obtain ⟨s12,s3⟩:=H0.out W0 k0
        have s5:=range_part s12 7 5
        have kc:=range_at s12 1 _ rfl
        go_wp2_with (first | ((with_reducible refine load_m s12 Tryz.underlying44 ?_ ?_ ?_ ?_ ?_);exact I12.out;rfl;rfl;rfl) | ((with_reducible refine load_m s3 Tryz.underlying48 ?_ ?_ ?_ ?_ ?_);exact I3.out;rfl;rfl;rfl) | ((with_reducible refine load_m s5 Tryz.underlying42 ?_ ?_ ?_ ?_ ?_);exact I5.out;rfl;rfl;rfl))
        refine (CG.out _ (HB.out.keep (KA.trans k0)) (HS.out.keep (KA.trans k0))).mono ?_
        rintro e1 w1 ⟨rfl,q1⟩
        have k1:=k0.trans q1
        clear q1 s12 s3 s5 kc
        obtain ⟨s12,s3⟩:=H0.out w1 k1
        have s5:=range_part s12 7 5
        have kc:=range_at s12 1 _ rfl
        go_wp2_with (first | ((with_reducible refine load_m s12 Tryz.underlying44 ?_ ?_ ?_ ?_ ?_);exact I12.out;rfl;rfl;rfl) | ((with_reducible refine load_m s3 Tryz.underlying48 ?_ ?_ ?_ ?_ ?_);exact I3.out;rfl;rfl;rfl) | ((with_reducible refine load_m s5 Tryz.underlying42 ?_ ?_ ?_ ?_ ?_);exact I5.out;rfl;rfl;rfl))
        refine (CL.out _).mono ?_
        rintro e2 w2 ⟨rfl,q2⟩
        have k2:=k1.trans q2
        clear k1 q2 s12 s3 s5 kc
        obtain ⟨s12,s3⟩:=H0.out w2 k2
        have s5:=range_part s12 7 5
        have kc:=range_at s12 1 _ rfl
        go_wp2_with (first | ((with_reducible refine load_m s12 Tryz.underlying44 ?_ ?_ ?_ ?_ ?_);exact I12.out;rfl;rfl;rfl) | ((with_reducible refine load_m s3 Tryz.underlying48 ?_ ?_ ?_ ?_ ?_);exact I3.out;rfl;rfl;rfl) | ((with_reducible refine load_m s5 Tryz.underlying42 ?_ ?_ ?_ ?_ ?_);exact I5.out;rfl;rfl;rfl))
        refine (CK.out _).mono ?_
        rintro e3 w3 ⟨rfl,q3⟩
        have k3:=k2.trans q3
        clear k2 q3 s12 s3 s5 kc
        obtain ⟨s12,s3⟩:=H0.out w3 k3
        have s5:=range_part s12 7 5
        have kc:=range_at s12 1 _ rfl
        go_wp2_with (first | ((with_reducible refine load_m s12 Tryz.underlying44 ?_ ?_ ?_ ?_ ?_);exact I12.out;rfl;rfl;rfl) | ((with_reducible refine load_m s3 Tryz.underlying48 ?_ ?_ ?_ ?_ ?_);exact I3.out;rfl;rfl;rfl) | ((with_reducible refine load_m s5 Tryz.underlying42 ?_ ?_ ?_ ?_ ?_);exact I5.out;rfl;rfl;rfl))
        go_ret2
        exact ListPostI.no (KA.trans k3)
      · rw [hkd] at CK
        rw [Bool.true_and]
        cases hsr:srcOk W H ls
        · rw [hsr] at CJ
          clear hB hS hq hql hnq hmk hok hst hsd0 hkd hsr
          go_enter Tryz.func20,Tryz.ntmps20
          go_upto_region 1 with (fail)
          generalize ((w.alloc (.cells #[.slice At nt ct,.slice Ak nk ck,.int .i64 a,.int .i64 b,.int .i64 c,.int .i64 d,.int .i64 e,.int .i64 W,.int .i64 H,x,r,y] 44)).alloc (.cells #[.int .i64 T,.int .i64 Z,u] 48))=W0 at *
          have k0:=Kp.refl W0
          obtain ⟨s12,s3⟩:=H0.out W0 k0
          have s5:=range_part s12 7 5
          have kc:=range_at s12 1 _ rfl
          go_wp2_with (first | ((with_reducible refine load_m s12 Tryz.underlying44 ?_ ?_ ?_ ?_ ?_);exact I12.out;rfl;rfl;rfl) | ((with_reducible refine load_m s3 Tryz.underlying48 ?_ ?_ ?_ ?_ ?_);exact I3.out;rfl;rfl;rfl) | ((with_reducible refine load_m s5 Tryz.underlying42 ?_ ?_ ?_ ?_ ?_);exact I5.out;rfl;rfl;rfl))
          refine (CG.out _ (HB.out.keep (KA.trans k0)) (HS.out.keep (KA.trans k0))).mono ?_
          rintro e1 w1 ⟨rfl,q1⟩
          have k1:=k0.trans q1
          clear q1 s12 s3 s5 kc
          obtain ⟨s12,s3⟩:=H0.out w1 k1
          have s5:=range_part s12 7 5
          have kc:=range_at s12 1 _ rfl
          go_wp2_with (first | ((with_reducible refine load_m s12 Tryz.underlying44 ?_ ?_ ?_ ?_ ?_);exact I12.out;rfl;rfl;rfl) | ((with_reducible refine load_m s3 Tryz.underlying48 ?_ ?_ ?_ ?_ ?_);exact I3.out;rfl;rfl;rfl) | ((with_reducible refine load_m s5 Tryz.underlying42 ?_ ?_ ?_ ?_ ?_);exact I5.out;rfl;rfl;rfl))
          refine (CL.out _).mono ?_
          rintro e2 w2 ⟨rfl,q2⟩
          have k2:=k1.trans q2
          clear k1 q2 s12 s3 s5 kc
          obtain ⟨s12,s3⟩:=H0.out w2 k2
          have s5:=range_part s12 7 5
          have kc:=range_at s12 1 _ rfl
          go_wp2_with (first | ((with_reducible refine load_m s12 Tryz.underlying44 ?_ ?_ ?_ ?_ ?_);exact I12.out;rfl;rfl;rfl) | ((with_reducible refine load_m s3 Tryz.underlying48 ?_ ?_ ?_ ?_ ?_);exact I3.out;rfl;rfl;rfl) | ((with_reducible refine load_m s5 Tryz.underlying42 ?_ ?_ ?_ ?_ ?_);exact I5.out;rfl;rfl;rfl))
          refine (CK.out _).mono ?_
          rintro e3 w3 ⟨rfl,q3⟩
          have k3:=k2.trans q3
          clear k2 q3 s12 s3 s5 kc
          obtain ⟨s12,s3⟩:=H0.out w3 k3
          have s5:=range_part s12 7 5
          have kc:=range_at s12 1 _ rfl
          go_wp2_with (first | ((with_reducible refine load_m s12 Tryz.underlying44 ?_ ?_ ?_ ?_ ?_);exact I12.out;rfl;rfl;rfl) | ((with_reducible refine load_m s3 Tryz.underlying48 ?_ ?_ ?_ ?_ ?_);exact I3.out;rfl;rfl;rfl) | ((with_reducible refine load_m s5 Tryz.underlying42 ?_ ?_ ?_ ?_ ?_);exact I5.out;rfl;rfl;rfl))
          refine (CJ.out _ (HQ.out.keep (KA.trans k3))).mono ?_
          rintro e4 w4 ⟨rfl,q4⟩
          have k4:=k3.trans q4
          clear k3 q4 s12 s3 s5 kc
          obtain ⟨s12,s3⟩:=H0.out w4 k4
          have s5:=range_part s12 7 5
          have kc:=range_at s12 1 _ rfl
          go_wp2_with (first | ((with_reducible refine load_m s12 Tryz.underlying44 ?_ ?_ ?_ ?_ ?_);exact I12.out;rfl;rfl;rfl) | ((with_reducible refine load_m s3 Tryz.underlying48 ?_ ?_ ?_ ?_ ?_);exact I3.out;rfl;rfl;rfl) | ((with_reducible refine load_m s5 Tryz.underlying42 ?_ ?_ ?_ ?_ ?_);exact I5.out;rfl;rfl;rfl))
          go_ret2
          exact ListPostI.no (KA.trans k4)
        · rw [hsr] at CJ
          have hsd:sd=0 ∨ sd=1:=by
            simp only [spB,Bool.and_eq_true,decide_eq_true_iff] at hsd0
            omega
          obtain ⟨k,rfl,hkn⟩:∃ k:Nat,kd=k∧k < nk:=by
            simp only [inB,Bool.and_eq_true,decide_eq_true_iff] at hkd
            exact ⟨kd.toNat,by omega,by omega⟩
          rw [Int.toNat_natCast]
          obtain ⟨p1,p2,p3,p4⟩:=mapOk_side (brdOk_map hok)
          have hlen:=mapOk_len (brdOk_map hok)
          obtain ⟨hsn,hsb,hsd2⟩:=srcOk_nat hsr
          have hsb':=hsb lt.length hlen
          have HQ2:Hid (RdI w (.slice Aq nq cq) (ints (srcN ls))):=Lib.hid (by rw [hsn];exact hq)
          have CO:=Lib.hid (fun (w:World) hB hS=>jOpen_any At Ak nt nk ct ck l m a b c d e W H x r y lt lr ld T Z u us sd k w hB hS hok hst (by omega) hsd)
          have CF:=Lib.hid (fun (vo:Value) (w:World) ho hq=>jFar_any W H x r y (fun j=>pasB l m lt lr ld W us sd k j) lt.length (srcN ls) vo (.slice Aq nq cq) w p1 p2 p3 p4 hlen ho hq hsb' hsd2)
          generalize farL (fun j=>pasB l m lt lr ld W us sd k j) W H (srcN ls) lt.length=FL at *
          generalize (fun j=>pasB l m lt lr ld W us sd k j)=F at *
          generalize lt.length=N at *
          clear hB hS hq hql hnq hmk hok hst hsd0 hkd hsr hsd hkn p1 p2 p3 p4 hlen hsn hsb hsb' hsd2
          go_enter Tryz.func20,Tryz.ntmps20
          go_upto_region 1 with (fail)
          generalize ((w.alloc (.cells #[.slice At nt ct,.slice Ak nk ck,.int .i64 a,.int .i64 b,.int .i64 c,.int .i64 d,.int .i64 e,.int .i64 W,.int .i64 H,x,r,y] 44)).alloc (.cells #[.int .i64 T,.int .i64 Z,u] 48))=W0 at *
          have k0:=Kp.refl W0
          obtain ⟨s12,s3⟩:=H0.out W0 k0
          have s5:=range_part s12 7 5
          have kc:=range_at s12 1 _ rfl
          go_wp2_with (first | ((with_reducible refine load_m s12 Tryz.underlying44 ?_ ?_ ?_ ?_ ?_);exact I12.out;rfl;rfl;rfl) | ((with_reducible refine load_m s3 Tryz.underlying48 ?_ ?_ ?_ ?_ ?_);exact I3.out;rfl;rfl;rfl) | ((with_reducible refine load_m s5 Tryz.underlying42 ?_ ?_ ?_ ?_ ?_);exact I5.out;rfl;rfl;rfl))
          refine (CG.out _ (HB.out.keep (KA.trans k0)) (HS.out.keep (KA.trans k0))).mono ?_
          rintro e1 w1 ⟨rfl,q1⟩
          have k1:=k0.trans q1
          clear q1 s12 s3 s5 kc
          obtain ⟨s12,s3⟩:=H0.out w1 k1
          have s5:=range_part s12 7 5
          have kc:=range_at s12 1 _ rfl
          go_wp2_with (first | ((with_reducible refine load_m s12 Tryz.underlying44 ?_ ?_ ?_ ?_ ?_);exact I12.out;rfl;rfl;rfl) | ((with_reducible refine load_m s3 Tryz.underlying48 ?_ ?_ ?_ ?_ ?_);exact I3.out;rfl;rfl;rfl) | ((with_reducible refine load_m s5 Tryz.underlying42 ?_ ?_ ?_ ?_ ?_);exact I5.out;rfl;rfl;rfl))
          refine (CL.out _).mono ?_
          rintro e2 w2 ⟨rfl,q2⟩
          have k2:=k1.trans q2
          clear k1 q2 s12 s3 s5 kc
          obtain ⟨s12,s3⟩:=H0.out w2 k2
          have s5:=range_part s12 7 5
          have kc:=range_at s12 1 _ rfl
          go_wp2_with (first | ((with_reducible refine load_m s12 Tryz.underlying44 ?_ ?_ ?_ ?_ ?_);exact I12.out;rfl;rfl;rfl) | ((with_reducible refine load_m s3 Tryz.underlying48 ?_ ?_ ?_ ?_ ?_);exact I3.out;rfl;rfl;rfl) | ((with_reducible refine load_m s5 Tryz.underlying42 ?_ ?_ ?_ ?_ ?_);exact I5.out;rfl;rfl;rfl))
          refine (CK.out _).mono ?_
          rintro e3 w3 ⟨rfl,q3⟩
          have k3:=k2.trans q3
          clear k2 q3 s12 s3 s5 kc
          obtain ⟨s12,s3⟩:=H0.out w3 k3
          have s5:=range_part s12 7 5
          have kc:=range_at s12 1 _ rfl
          go_wp2_with (first | ((with_reducible refine load_m s12 Tryz.underlying44 ?_ ?_ ?_ ?_ ?_);exact I12.out;rfl;rfl;rfl) | ((with_reducible refine load_m s3 Tryz.underlying48 ?_ ?_ ?_ ?_ ?_);exact I3.out;rfl;rfl;rfl) | ((with_reducible refine load_m s5 Tryz.underlying42 ?_ ?_ ?_ ?_ ?_);exact I5.out;rfl;rfl;rfl))
          refine (CJ.out _ (HQ.out.keep (KA.trans k3))).mono ?_
          rintro e4 w4 ⟨rfl,q4⟩
          have k4:=k3.trans q4
          clear k3 q4 s12 s3 s5 kc
          obtain ⟨s12,s3⟩:=H0.out w4 k4
          have s5:=range_part s12 7 5
          have kc:=range_at s12 1 _ rfl
          have kd4:=k4.drew
          have sg:World.rangeAt w4.drew w.heap.size 0 [.slice At nt ct,.slice Ak nk ck,.int .i64 a,.int .i64 b,.int .i64 c,.int .i64 d,.int .i64 e,.int .i64 W,.int .i64 H,x,r,y]∧World.rangeAt w4.drew (w.heap.size + 1) 0 [.int .i64 T,.int .i64 Z,u]∧Kp w w4.drew:=⟨(H0.out _ kd4).1,(H0.out _ kd4).2,KA.trans kd4⟩
          clear s12 s3 s5 kc
          go_upto_region 3 with (fail)
          refine wp_region_held_drew (S:=(fun w'=>World.rangeAt w' w.heap.size 0 [.slice At nt ct,.slice Ak nk ck,.int .i64 a,.int .i64 b,.int .i64 c,.int .i64 d,.int .i64 e,.int .i64 W,.int .i64 H,x,r,y]∧World.rangeAt w' (w.heap.size + 1) 0 [.int .i64 T,.int .i64 Z,u]∧Kp w w')) (by kernel_rfl) ?_ (fun hHeld=>?_)
          · assumption
          generalize w4.drew=V at *
          clear sg kd4 k4
          refine tk 0 ⟨some 37,_,_,_,_,_⟩ ?_ rfl (by kernel_rfl) (fun _ _ _ h=>h) (by rfl) ?_ (by assumption) ?_
          rotate_left
          · intro w' hSw;(try dsimp only at hSw);go_simp;(all_goals with_reducible rfl)
          try simp only [Act.put,sA,sB,sC]
          refine wpAnyH_take (i:=1) (oi:=⟨some 38,_,_,_,_,_⟩) (v:=.agg ([.int .i64 W,.int .i64 H,x,r,y]).toArray) rfl (by kernel_rfl) (by kernel_rfl) (by kernel_rfl) (fun _ _ _ h=>h) (yieldsIf_load_mid (by rfl) 42 _ rfl (w.heap.size) 7 rfl [.int .i64 W,.int .i64 H,x,r,y] _ (fun w' h=>range_part h.1 7 5) Tryz.underlying42 rfl (by kernel_rfl)) (by assumption) ?_
          try simp only [Act.put,sA,sB,sC]
          refine wpAnyH_take (i:=2) (oi:=⟨some 39,_,_,_,_,_⟩) (v:=.agg ([.slice At nt ct,.slice Ak nk ck,.int .i64 a,.int .i64 b,.int .i64 c,.int .i64 d,.int .i64 e,.int .i64 W,.int .i64 H,x,r,y]).toArray) rfl (by kernel_rfl) (by kernel_rfl) (by kernel_rfl) (fun _ _ _ h=>h) (yieldsIf_load_mid (by rfl) 44 _ rfl (w.heap.size) 0 rfl [.slice At nt ct,.slice Ak nk ck,.int .i64 a,.int .i64 b,.int .i64 c,.int .i64 d,.int .i64 e,.int .i64 W,.int .i64 H,x,r,y] _ (fun w' h=>h.1) Tryz.underlying44 rfl (by kernel_rfl)) (by assumption) ?_
          try simp only [Act.put,sA,sB,sC]
          refine wpAnyH_take (i:=3) (oi:=⟨some 40,_,_,_,_,_⟩) (v:=.agg ([.int .i64 T,.int .i64 Z,u]).toArray) rfl (by kernel_rfl) (by kernel_rfl) (by kernel_rfl) (fun _ _ _ h=>h) (yieldsIf_load_mid (by rfl) 48 _ rfl (w.heap.size + 1) 0 rfl [.int .i64 T,.int .i64 Z,u] _ (fun w' h=>h.2.1) Tryz.underlying48 rfl (by kernel_rfl)) (by assumption) ?_
          try simp only [Act.put,sA,sB,sC]
          refine tk 4 ⟨some 41,_,_,_,_,_⟩ ?_ rfl (by kernel_rfl) (fun _ _ _ h=>h) (by rfl) ?_ (by assumption) ?_
          rotate_left
          · intro w' hSw;(try dsimp only at hSw);go_simp;(all_goals with_reducible rfl)
          try simp only [Act.put,sA,sB,sC]
          refine tk 5 ⟨some 42,_,_,_,_,_⟩ ?_ rfl (by kernel_rfl) (fun _ _ _ h=>h) (by rfl) ?_ (by assumption) ?_
          rotate_left
          · intro w' hSw;(try dsimp only at hSw);go_simp;(all_goals with_reducible rfl)
          try simp only [Act.put,sA,sB,sC]
          refine tk 7 ⟨some 44,_,_,_,_,_⟩ ?_ rfl (by kernel_rfl) (fun _ _ _ h=>h) (by rfl) ?_ (by assumption) ?_
          rotate_left
          · intro w' hSw;(try dsimp only at hSw);go_simp;(all_goals with_reducible rfl)
          try simp only [Act.put,sA,sB,sC]
          refine wpAnyH_ready (rs:=[6]) (by kernel_rfl) (by simp) ?_
          refine (AllReadyH.cons (o:=⟨some 43,_,_,_,_,_⟩) rfl (fun K hK=>?_) AllReadyH.nil)
          go_simp
          refine (CO.out _ (HB.out.keep hHeld.2.2) (HS.out.keep hHeld.2.2)).mono ?_
          rintro e5 w5 ⟨v5,rfl,o5,q5⟩
          have s5_:World.rangeAt w5 w.heap.size 0 [.slice At nt ct,.slice Ak nk ck,.int .i64 a,.int .i64 b,.int .i64 c,.int .i64 d,.int .i64 e,.int .i64 W,.int .i64 H,x,r,y]∧World.rangeAt w5 (w.heap.size + 1) 0 [.int .i64 T,.int .i64 Z,u]∧Kp w w5:=⟨range_keep hHeld.1 q5,range_keep hHeld.2.1 q5,hHeld.2.2.trans q5⟩
          have K5:=s5_.2.2
          have CF5:=Lib.hid (CF.out v5 w5 o5.rd (HQ2.out.keep K5))
          obtain ⟨A5,c5,hv5,_⟩:=o5.rd
          subst hv5
          clear o5 q5
          go_wp2_with fail
          refine hK.out _ _ s5_ (fun hHeld=>?_)
          clear hK K
          try simp only [Act.put,sA,sB,sC]
          refine wpAnyH_ready (rs:=[8]) (by kernel_rfl) (by simp) ?_
          refine (AllReadyH.cons (o:=⟨some 45,_,_,_,_,_⟩) rfl (fun K hK=>?_) AllReadyH.nil)
          go_simp
          refine CF5.out.mono ?_
          rintro e6 w6 ⟨v6,rfl,o6,q6⟩
          have s6_:World.rangeAt w6 w.heap.size 0 [.slice At nt ct,.slice Ak nk ck,.int .i64 a,.int .i64 b,.int .i64 c,.int .i64 d,.int .i64 e,.int .i64 W,.int .i64 H,x,r,y]∧World.rangeAt w6 (w.heap.size + 1) 0 [.int .i64 T,.int .i64 Z,u]∧Kp w w6:=⟨range_keep hHeld.1 q6,range_keep hHeld.2.1 q6,hHeld.2.2.trans q6⟩
          have HO6:=Lib.hid (o6.base K5.size)
          clear o6 q6
          go_wp2_with fail
          refine hK.out _ _ s6_ (fun hHeld=>?_)
          clear hK K
          try simp only [Act.put,sA,sB,sC]
          refine tk 9 ⟨some 10,_,_,_,_,_⟩ ?_ rfl (by kernel_rfl) (fun _ _ _ h=>h) (by rfl) ?_ (by assumption) ?_
          rotate_left
          · intro w' hSw;(try dsimp only at hSw);go_simp;(all_goals with_reducible rfl)
          try simp only [Act.put,sA,sB,sC]
          refine tk 10 ⟨some 11,_,_,_,_,_⟩ ?_ rfl (by kernel_rfl) (fun _ _ _ h=>h) (by rfl) ?_ (by assumption) ?_
          rotate_left
          · intro w' hSw;(try dsimp only at hSw);go_simp;(all_goals with_reducible rfl)
          try simp only [Act.put,sA,sB,sC]
          refine wpAnyH_done (by kernel_rfl) ?_ _
          go_wp2_with fail
          go_ret2
          exact ⟨_,rfl,HO6.out,hHeld.2.2⟩
end Go.Proofs.YtgefinicjphmpaaGreatDoor
