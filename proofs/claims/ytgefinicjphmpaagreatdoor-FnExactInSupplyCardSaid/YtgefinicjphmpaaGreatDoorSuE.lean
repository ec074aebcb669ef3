import Derived.Deep.Cut
import Derived.Deep.RegionHeld3
import Derived.Test.YtgefinicjphmpaaGreatDoorSuY
namespace Go.Proofs.YtgefinicjphmpaaGreatDoor
open Go.RowKit
set_option maxRecDepth 100000 in
set_option maxHeartbeats 4000000 in
theorem inSupplyP_s (At Ak:Option Addr) (nt nk ct ck:Nat) (l:List Ter) (m:List Knd) (a b c d e W H:Int) (Ax Ar Ay:Option Addr) (nx cx nr cr ny cy:Nat) (lt lr ld:List Int) (T Z:Int) (Au:Option Addr) (nu cu:Nat) (us:List Uni) (un:Int) (Aq:Option Addr) (nq cq:Nat) (ls:List Int) (w:World) (hs:Spans w) (ht:Tab w) (hu:SpU w) (hB:BrdAt w At Ak nt nk l m (.slice Ax nx cx) (.slice Ar nr cr) (.slice Ay ny cy) lt lr ld) (hS:StaAt w (.slice Au nu cu) us) (hq:RdI w (.slice Aq nq cq) ls) (hql:ls.length ≤ 1048576) :
    Calls Tryz.prog 29 #[bv (.slice At nt ct) (.slice Ak nk ck) a b c d e W H (.slice Ax nx cx) (.slice Ar nr cr) (.slice Ay ny cy),sv T Z (.slice Au nu cu),.int .i64 un,.slice Aq nq cq] w fun e' w'=>e'=.returned (.tuple #[.bool ((((brdOk ⟨l,m,a,b,c,d,e⟩ W H lt lr ld && staOk ⟨l,m,a,b,c,d,e⟩ W H lt T Z us) && inB un us.length) && srcOk W H ls) && supU l m lt lr ld W us H d ls (unN us un)),.bool (((brdOk ⟨l,m,a,b,c,d,e⟩ W H lt lr ld && staOk ⟨l,m,a,b,c,d,e⟩ W H lt T Z us) && inB un us.length) && srcOk W H ls)])∧Kp w w':=by
  have KA:Kp w ((w.alloc (.cells #[.slice At nt ct,.slice Ak nk ck,.int .i64 a,.int .i64 b,.int .i64 c,.int .i64 d,.int .i64 e,.int .i64 W,.int .i64 H,.slice Ax nx cx,.slice Ar nr cr,.slice Ay ny cy] 44)).alloc (.cells #[.int .i64 T,.int .i64 Z,.slice Au nu cu] 48)):=((Kp.refl w).alloc _).alloc _
  have H0:Hid (∀ w',Kp ((w.alloc (.cells #[.slice At nt ct,.slice Ak nk ck,.int .i64 a,.int .i64 b,.int .i64 c,.int .i64 d,.int .i64 e,.int .i64 W,.int .i64 H,.slice Ax nx cx,.slice Ar nr cr,.slice Ay ny cy] 44)).alloc (.cells #[.int .i64 T,.int .i64 Z,.slice Au nu cu] 48)) w'→World.rangeAt w' w.heap.size 0 [.slice At nt ct,.slice Ak nk ck,.int .i64 a,.int .i64 b,.int .i64 c,.int .i64 d,.int .i64 e,.int .i64 W,.int .i64 H,.slice Ax nx cx,.slice Ar nr cr,.slice Ay ny cy]∧World.rangeAt w' (w.heap.size + 1) 0 [.int .i64 T,.int .i64 Z,.slice Au nu cu]):=Lib.hid fun w' k=>by
    have r3:=range_fresh (w.alloc (.cells #[.slice At nt ct,.slice Ak nk ck,.int .i64 a,.int .i64 b,.int .i64 c,.int .i64 d,.int .i64 e,.int .i64 W,.int .i64 H,.slice Ax nx cx,.slice Ar nr cr,.slice Ay ny cy] 44)) [.int .i64 T,.int .i64 Z,.slice Au nu cu] 48
    rw [show (w.alloc (.cells #[.slice At nt ct,.slice Ak nk ck,.int .i64 a,.int .i64 b,.int .i64 c,.int .i64 d,.int .i64 e,.int .i64 W,.int .i64 H,.slice Ax nx cx,.slice Ar nr cr,.slice Ay ny cy] 44)).heap.size=w.heap.size + 1 by simp] at r3
    exact ⟨range_keep (range_fresh w [.slice At nt ct,.slice Ak nk ck,.int .i64 a,.int .i64 b,.int .i64 c,.int .i64 d,.int .i64 e,.int .i64 W,.int .i64 H,.slice Ax nx cx,.slice Ar nr cr,.slice Ay ny cy] 44) (((Kp.refl _).alloc _).trans k),range_keep r3 k⟩
  have I12:Hid ((Tryz.prog.info? 44).map (·.size)=some 12):=Lib.hid (by kernel_rfl)
  have I3:Hid ((Tryz.prog.info? 48).map (·.size)=some 3):=Lib.hid (by kernel_rfl)
  have I17:Hid ((Tryz.prog.info? 80).map (·.size)=some 17):=Lib.hid (by kernel_rfl)
  have I4:Hid ((Tryz.prog.info? 103).map (·.size)=some 4):=Lib.hid (by kernel_rfl)
  have HSP:=Lib.hid hs
  have HT:=Lib.hid ht
  have HU:=Lib.hid hu
  have HB:=Lib.hid hB
  have HS:=Lib.hid hS
  have HQ:=Lib.hid hq
  have CSU:=Lib.hid (fun (w:World) hs ht hu hB hS hq=>supplierOfUnit_any At Ak nt nk ct ck l m a b c d e W H (.slice Ax nx cx) (.slice Ar nr cr) (.slice Ay ny cy) lt lr ld T Z (.slice Au nu cu) us un Aq nq cq ls w hs ht hu hB hS hq hql)
  rw [okx_eq] at CSU
  clear hs ht hu hB hS hq hql
  cases hg:((brdOk ⟨l,m,a,b,c,d,e⟩ W H lt lr ld && staOk ⟨l,m,a,b,c,d,e⟩ W H lt T Z us) && inB un us.length) && srcOk W H ls
  · rw [hg,if_neg Bool.false_ne_true,if_neg Bool.false_ne_true] at CSU
    rw [Bool.false_and]
    clear hg
    go_enter Tryz.func29,Tryz.ntmps29
    go_upto_region 1 with (fail)
    generalize ((w.alloc (.cells #[.slice At nt ct,.slice Ak nk ck,.int .i64 a,.int .i64 b,.int .i64 c,.int .i64 d,.int .i64 e,.int .i64 W,.int .i64 H,.slice Ax nx cx,.slice Ar nr cr,.slice Ay ny cy] 44)).alloc (.cells #[.int .i64 T,.int .i64 Z,.slice Au nu cu] 48))=W0 at *
    obtain ⟨s12,s3⟩:=H0.out W0 (Kp.refl _)
    go_wp2_with (first | ((with_reducible refine load_m s12 Tryz.underlying44 ?_ ?_ ?_ ?_ ?_);exact I12.out;rfl;rfl;rfl) | ((with_reducible refine load_m s3 Tryz.underlying48 ?_ ?_ ?_ ?_ ?_);exact I3.out;rfl;rfl;rfl))
    refine (CSU.out _ (HSP.out.keep KA) (HT.out.keep KA) (HU.out.keep KA) (HB.out.keep KA) (HS.out.keep KA) (HQ.out.keep KA)).mono ?_
    rintro e1 w1 ⟨rfl,q1⟩
    have K1:=KA.trans q1
    clear s12 s3
    have t17:World.there ((w1.alloc (.cells #[.slice none 0 0,.slice none 0 0,.int .i64 0,.int .i64 0,.int .i64 0,.int .i64 0,.int .i64 0,.int .i64 0,.int .i64 0,.slice none 0 0,.slice none 0 0,.slice none 0 0,.int .i64 0,.int .i64 0,.slice none 0 0,.int .i64 0,.slice none 0 0] 80)).alloc (.cells #[.int .i64 0,.int .i64 0,.int .i64 0,.int .i64 0] 103)) w1.heap.size 0 (#[.slice none 0 0,.slice none 0 0,.int .i64 0,.int .i64 0,.int .i64 0,.int .i64 0,.int .i64 0,.int .i64 0,.int .i64 0,.slice none 0 0,.slice none 0 0,.slice none 0 0,.int .i64 0,.int .i64 0,.slice none 0 0,.int .i64 0,.slice none 0 0]:Array Value).size:=World.there_alloc (there_fresh w1 [.slice none 0 0,.slice none 0 0,.int .i64 0,.int .i64 0,.int .i64 0,.int .i64 0,.int .i64 0,.int .i64 0,.int .i64 0,.slice none 0 0,.slice none 0 0,.slice none 0 0,.int .i64 0,.int .i64 0,.slice none 0 0,.int .i64 0,.slice none 0 0] 80) _
    obtain ⟨W9,hW9⟩:∃ W9,W9=((w1.alloc (.cells #[.slice none 0 0,.slice none 0 0,.int .i64 0,.int .i64 0,.int .i64 0,.int .i64 0,.int .i64 0,.int .i64 0,.int .i64 0,.slice none 0 0,.slice none 0 0,.slice none 0 0,.int .i64 0,.int .i64 0,.slice none 0 0,.int .i64 0,.slice none 0 0] 80)).alloc (.cells #[.int .i64 0,.int .i64 0,.int .i64 0,.int .i64 0] 103)).setCells w1.heap.size 0 (#[.slice none 0 0,.slice none 0 0,.int .i64 0,.int .i64 0,.int .i64 0,.int .i64 0,.int .i64 0,.int .i64 0,.int .i64 0,.slice none 0 0,.slice none 0 0,.slice none 0 0,.int .i64 0,.int .i64 0,.slice none 0 0,.int .i64 0,.slice none 0 0]:Array Value).toList:=⟨_,rfl⟩
    have t4:W9.there (w1.heap.size + 1) 0 (#[.int .i64 0,.int .i64 0,.int .i64 0,.int .i64 0]:Array Value).size:=by
      have h:=there_fresh (w1.alloc (.cells #[.slice none 0 0,.slice none 0 0,.int .i64 0,.int .i64 0,.int .i64 0,.int .i64 0,.int .i64 0,.int .i64 0,.int .i64 0,.slice none 0 0,.slice none 0 0,.slice none 0 0,.int .i64 0,.int .i64 0,.slice none 0 0,.int .i64 0,.slice none 0 0] 80)) [.int .i64 0,.int .i64 0,.int .i64 0,.int .i64 0] 103
      rw [show (w1.alloc (.cells #[.slice none 0 0,.slice none 0 0,.int .i64 0,.int .i64 0,.int .i64 0,.int .i64 0,.int .i64 0,.int .i64 0,.int .i64 0,.slice none 0 0,.slice none 0 0,.slice none 0 0,.int .i64 0,.int .i64 0,.slice none 0 0,.int .i64 0,.slice none 0 0] 80)).heap.size=w1.heap.size + 1 by simp] at h
      rw [hW9]
      exact World.there_setCells h _ _ _
    obtain ⟨W10,hW10⟩:∃ W10,W10=W9.setCells (w1.heap.size + 1) 0 (#[.int .i64 0,.int .i64 0,.int .i64 0,.int .i64 0]:Array Value).toList:=⟨_,rfl⟩
    have r9:World.rangeAt W10 w1.heap.size 0 [.slice none 0 0,.slice none 0 0,.int .i64 0,.int .i64 0,.int .i64 0,.int .i64 0,.int .i64 0,.int .i64 0,.int .i64 0,.slice none 0 0,.slice none 0 0,.slice none 0 0,.int .i64 0,.int .i64 0,.slice none 0 0,.int .i64 0,.slice none 0 0]:=by
      rw [hW10,hW9]
      exact World.rangeAt_setCells_apart (World.rangeAt_setCells_same _ _ _ _ t17) _ _ _ (.inl (by omega))
    have r10:World.rangeAt W10 (w1.heap.size + 1) 0 [.int .i64 0,.int .i64 0,.int .i64 0,.int .i64 0]:=by
      rw [hW10]
      exact World.rangeAt_setCells_same _ _ _ _ t4
    have K10:Kp w W10:=by
      have hz:=K1.size
      rw [hW10,hW9]
      exact kp_cells (by omega) _ _ _ (kp_cells (by omega) _ _ _ ((K1.alloc _).alloc _))
    have kW0:Kp W0 W10:=by
      have hz:=q1.size
      rw [hW10,hW9]
      exact kp_cells (by omega) _ _ _ (kp_cells (by omega) _ _ _ ((q1.alloc _).alloc _))
    have HW9:=Lib.hid hW9
    have HW10:=Lib.hid hW10
    clear hW9 hW10
    obtain ⟨s12,s3⟩:=H0.out W10 kW0
    go_wp2_with (first | ((with_reducible refine store_m t17 ?_ ?_ ?_ ?_ ?_ ?_);exact I17.out;(simp [Value.oneCell']);rfl;rfl;rfl;rw [← HW9.out]) | ((with_reducible refine store_m t4 ?_ ?_ ?_ ?_ ?_ ?_);exact I4.out;(simp [Value.oneCell']);rfl;rfl;rfl;rw [← HW10.out]) | ((with_reducible refine load_m r9 Tryz.underlying80 ?_ ?_ ?_ ?_ ?_);exact I17.out;rfl;rfl;rfl) | ((with_reducible refine load_m r10 Tryz.underlying103 ?_ ?_ ?_ ?_ ?_);exact I4.out;rfl;rfl;rfl) | ((with_reducible refine load_m s12 Tryz.underlying44 ?_ ?_ ?_ ?_ ?_);exact I12.out;rfl;rfl;rfl) | ((with_reducible refine load_m s3 Tryz.underlying48 ?_ ?_ ?_ ?_ ?_);exact I3.out;rfl;rfl;rfl))
    go_ret2
    exact ⟨rfl,K10⟩
  · rw [hg,if_pos rfl,if_pos rfl] at CSU
    rw [Bool.true_and]
    simp only [Bool.and_eq_true] at hg
    obtain ⟨⟨⟨hok,hst⟩,hun⟩,hsr⟩:=hg
    obtain ⟨p1,p2,p3,p4⟩:=mapOk_side (brdOk_map hok)
    have hlen:=mapOk_len (brdOk_map hok)
    obtain ⟨zs,k,za,zt,hz,hzs,hkm,hza⟩:=uni_known hst hlen hun
    obtain ⟨hsn,hsb,hsd⟩:=srcOk_nat hsr
    have hsb':=hsb lt.length hlen
    have hsl:(srcN ls).length ≤ 100:=by
      have h1:=(srcOk_parts hsr).1
      unfold srcN
      rw [List.length_map]
      omega
    rw [hz] at CSU ⊢
    have HSN:=Lib.hid hsn
    have CX:=Lib.hid (fun (w:World) ht hB hS hq=>supplies_any At Ak nt nk ct ck l m a b c d e W H (.slice Ax nx cx) (.slice Ar nr cr) (.slice Ay ny cy) lt lr ld T Z (.slice Au nu cu) us zs Aq nq cq (srcN ls) k zs za zt none 0 0 [] w ht hB hS hok hst hkm hq hsb' hsl hzs ⟨none,0,rfl,fun h=>by cases h⟩ (by simp) hza)
    rw [bl_nil] at CX
    have HE:Hid (supU l m lt lr ld W us H d ls ⟨zs,(k:Int),za,zt⟩=(decide (za ≠ -1) && insB (wayN (fun j=>pasB l m lt lr ld W us zs k j) W H (srcN ls) lt.length za.toNat).length d)):=Lib.hid rfl
    rw [← HE.out] at CX
    clear HE
    generalize supU l m lt lr ld W us H d ls ⟨zs,(k:Int),za,zt⟩=R at CX ⊢
    clear hok hst hun hsr hz hzs hkm hza hsn hsb hsb' hsd hsl hlen
    go_enter Tryz.func29,Tryz.ntmps29
    go_upto_region 1 with (fail)
    generalize ((w.alloc (.cells #[.slice At nt ct,.slice Ak nk ck,.int .i64 a,.int .i64 b,.int .i64 c,.int .i64 d,.int .i64 e,.int .i64 W,.int .i64 H,.slice Ax nx cx,.slice Ar nr cr,.slice Ay ny cy] 44)).alloc (.cells #[.int .i64 T,.int .i64 Z,.slice Au nu cu] 48))=W0 at *
    obtain ⟨s12,s3⟩:=H0.out W0 (Kp.refl _)
    go_wp2_with (first | ((with_reducible refine load_m s12 Tryz.underlying44 ?_ ?_ ?_ ?_ ?_);exact I12.out;rfl;rfl;rfl) | ((with_reducible refine load_m s3 Tryz.underlying48 ?_ ?_ ?_ ?_ ?_);exact I3.out;rfl;rfl;rfl))
    refine (CSU.out _ (HSP.out.keep KA) (HT.out.keep KA) (HU.out.keep KA) (HB.out.keep KA) (HS.out.keep KA) (HQ.out.keep KA)).mono ?_
    rintro e1 w1 ⟨rfl,q1⟩
    have K1:=KA.trans q1
    clear s12 s3
    have t17:World.there ((w1.alloc (.cells #[.slice none 0 0,.slice none 0 0,.int .i64 0,.int .i64 0,.int .i64 0,.int .i64 0,.int .i64 0,.int .i64 0,.int .i64 0,.slice none 0 0,.slice none 0 0,.slice none 0 0,.int .i64 0,.int .i64 0,.slice none 0 0,.int .i64 0,.slice none 0 0] 80)).alloc (.cells #[.int .i64 0,.int .i64 0,.int .i64 0,.int .i64 0] 103)) w1.heap.size 0 (#[.slice At nt ct,.slice Ak nk ck,.int .i64 a,.int .i64 b,.int .i64 c,.int .i64 d,.int .i64 e,.int .i64 W,.int .i64 H,.slice Ax nx cx,.slice Ar nr cr,.slice Ay ny cy,.int .i64 T,.int .i64 Z,.slice Au nu cu,.int .i64 zs,.slice Aq nq cq]:Array Value).size:=World.there_alloc (there_fresh w1 [.slice none 0 0,.slice none 0 0,.int .i64 0,.int .i64 0,.int .i64 0,.int .i64 0,.int .i64 0,.int .i64 0,.int .i64 0,.slice none 0 0,.slice none 0 0,.slice none 0 0,.int .i64 0,.int .i64 0,.slice none 0 0,.int .i64 0,.slice none 0 0] 80) _
    obtain ⟨W9,hW9⟩:∃ W9,W9=((w1.alloc (.cells #[.slice none 0 0,.slice none 0 0,.int .i64 0,.int .i64 0,.int .i64 0,.int .i64 0,.int .i64 0,.int .i64 0,.int .i64 0,.slice none 0 0,.slice none 0 0,.slice none 0 0,.int .i64 0,.int .i64 0,.slice none 0 0,.int .i64 0,.slice none 0 0] 80)).alloc (.cells #[.int .i64 0,.int .i64 0,.int .i64 0,.int .i64 0] 103)).setCells w1.heap.size 0 (#[.slice At nt ct,.slice Ak nk ck,.int .i64 a,.int .i64 b,.int .i64 c,.int .i64 d,.int .i64 e,.int .i64 W,.int .i64 H,.slice Ax nx cx,.slice Ar nr cr,.slice Ay ny cy,.int .i64 T,.int .i64 Z,.slice Au nu cu,.int .i64 zs,.slice Aq nq cq]:Array Value).toList:=⟨_,rfl⟩
    have t4:W9.there (w1.heap.size + 1) 0 (#[.int .i64 zs,.int .i64 (k:Int),.int .i64 za,.int .i64 zt]:Array Value).size:=by
      have h:=there_fresh (w1.alloc (.cells #[.slice none 0 0,.slice none 0 0,.int .i64 0,.int .i64 0,.int .i64 0,.int .i64 0,.int .i64 0,.int .i64 0,.int .i64 0,.slice none 0 0,.slice none 0 0,.slice none 0 0,.int .i64 0,.int .i64 0,.slice none 0 0,.int .i64 0,.slice none 0 0] 80)) [.int .i64 0,.int .i64 0,.int .i64 0,.int .i64 0] 103
      rw [show (w1.alloc (.cells #[.slice none 0 0,.slice none 0 0,.int .i64 0,.int .i64 0,.int .i64 0,.int .i64 0,.int .i64 0,.int .i64 0,.int .i64 0,.slice none 0 0,.slice none 0 0,.slice none 0 0,.int .i64 0,.int .i64 0,.slice none 0 0,.int .i64 0,.slice none 0 0] 80)).heap.size=w1.heap.size + 1 by simp] at h
      rw [hW9]
      exact World.there_setCells h _ _ _
    obtain ⟨W10,hW10⟩:∃ W10,W10=W9.setCells (w1.heap.size + 1) 0 (#[.int .i64 zs,.int .i64 (k:Int),.int .i64 za,.int .i64 zt]:Array Value).toList:=⟨_,rfl⟩
    have r9:World.rangeAt W10 w1.heap.size 0 [.slice At nt ct,.slice Ak nk ck,.int .i64 a,.int .i64 b,.int .i64 c,.int .i64 d,.int .i64 e,.int .i64 W,.int .i64 H,.slice Ax nx cx,.slice Ar nr cr,.slice Ay ny cy,.int .i64 T,.int .i64 Z,.slice Au nu cu,.int .i64 zs,.slice Aq nq cq]:=by
      rw [hW10,hW9]
      exact World.rangeAt_setCells_apart (World.rangeAt_setCells_same _ _ _ _ t17) _ _ _ (.inl (by omega))
    have r10:World.rangeAt W10 (w1.heap.size + 1) 0 [.int .i64 zs,.int .i64 (k:Int),.int .i64 za,.int .i64 zt]:=by
      rw [hW10]
      exact World.rangeAt_setCells_same _ _ _ _ t4
    have K10:Kp w W10:=by
      have hz:=K1.size
      rw [hW10,hW9]
      exact kp_cells (by omega) _ _ _ (kp_cells (by omega) _ _ _ ((K1.alloc _).alloc _))
    have kW0:Kp W0 W10:=by
      have hz:=q1.size
      rw [hW10,hW9]
      exact kp_cells (by omega) _ _ _ (kp_cells (by omega) _ _ _ ((q1.alloc _).alloc _))
    have HW9:=Lib.hid hW9
    have HW10:=Lib.hid hW10
    clear hW9 hW10
    obtain ⟨s12,s3⟩:=H0.out W10 kW0
    go_wp2_with (first | ((with_reducible refine store_m t17 ?_ ?_ ?_ ?_ ?_ ?_);exact I17.out;(simp [Value.oneCell']);rfl;rfl;rfl;rw [← HW9.out]) | ((with_reducible refine store_m t4 ?_ ?_ ?_ ?_ ?_ ?_);exact I4.out;(simp [Value.oneCell']);rfl;rfl;rfl;rw [← HW10.out]) | ((with_reducible refine load_m r9 Tryz.underlying80 ?_ ?_ ?_ ?_ ?_);exact I17.out;rfl;rfl;rfl) | ((with_reducible refine load_m r10 Tryz.underlying103 ?_ ?_ ?_ ?_ ?_);exact I4.out;rfl;rfl;rfl) | ((with_reducible refine load_m s12 Tryz.underlying44 ?_ ?_ ?_ ?_ ?_);exact I12.out;rfl;rfl;rfl) | ((with_reducible refine load_m s3 Tryz.underlying48 ?_ ?_ ?_ ?_ ?_);exact I3.out;rfl;rfl;rfl))
    refine (CX.out _ (HT.out.keep K10) (HB.out.keep K10) (HS.out.keep K10) (by rw [HSN.out];exact HQ.out.keep K10)).mono ?_
    rintro e2 w2 ⟨rfl,k2⟩
    go_wp2_with fail
    go_ret2
    exact ⟨rfl,K10.trans k2⟩
theorem inSupplyP_any (At Ak:Option Addr) (nt nk ct ck:Nat) (l:List Ter) (m:List Knd) (a b c d e W H:Int) (x r y:Value) (lt lr ld:List Int) (T Z:Int) (u:Value) (us:List Uni) (un:Int) (Aq:Option Addr) (nq cq:Nat) (ls:List Int) (w:World) (hs:Spans w) (ht:Tab w) (hu:SpU w) (hB:BrdAt w At Ak nt nk l m x r y lt lr ld) (hS:StaAt w u us) (hq:RdI w (.slice Aq nq cq) ls) (hql:ls.length ≤ 1048576) :
    Calls Tryz.prog 29 #[bv (.slice At nt ct) (.slice Ak nk ck) a b c d e W H x r y,sv T Z u,.int .i64 un,.slice Aq nq cq] w fun e' w'=>e'=.returned (.tuple #[.bool ((((brdOk ⟨l,m,a,b,c,d,e⟩ W H lt lr ld && staOk ⟨l,m,a,b,c,d,e⟩ W H lt T Z us) && inB un us.length) && srcOk W H ls) && supU l m lt lr ld W us H d ls (unN us un)),.bool (((brdOk ⟨l,m,a,b,c,d,e⟩ W H lt lr ld && staOk ⟨l,m,a,b,c,d,e⟩ W H lt T Z us) && inB un us.length) && srcOk W H ls)])∧Kp w w':=by
  obtain ⟨Ax,cx,rfl,_⟩:=hB.L.rt
  obtain ⟨Ar,cr,rfl,_⟩:=hB.L.rr
  obtain ⟨Ay,cy,rfl,_⟩:=hB.L.rd
  obtain ⟨Au,cu,rfl,_⟩:=hS.rd
  exact inSupplyP_s At Ak nt nk ct ck l m a b c d e W H Ax Ar Ay lt.length cx lr.length cr ld.length cy lt lr ld T Z Au us.length cu us un Aq nq cq ls w hs ht hu hB hS hq hql
set_option maxRecDepth 100000 in
set_option maxHeartbeats 4000000 in
theorem supplyMarginP_s (At Ak:Option Addr) (nt nk ct ck:Nat) (l:List Ter) (m:List Knd) (a b c d e W H:Int) (Ax Ar Ay:Option Addr) (nx cx nr cr ny cy:Nat) (lt lr ld:List Int) (T Z:Int) (Au:Option Addr) (nu cu:Nat) (us:List Uni) (un:Int) (Aq:Option Addr) (nq cq:Nat) (ls:List Int) (w:World) (hs:Spans w) (ht:Tab w) (hu:SpU w) (hB:BrdAt w At Ak nt nk l m (.slice Ax nx cx) (.slice Ar nr cr) (.slice Ay ny cy) lt lr ld) (hS:StaAt w (.slice Au nu cu) us) (hq:RdI w (.slice Aq nq cq) ls) (hql:ls.length ≤ 1048576) :
    Calls Tryz.prog 42 #[bv (.slice At nt ct) (.slice Ak nk ck) a b c d e W H (.slice Ax nx cx) (.slice Ar nr cr) (.slice Ay ny cy),sv T Z (.slice Au nu cu),.int .i64 un,.slice Aq nq cq] w fun e' w'=>e'=.returned (ib ((((brdOk ⟨l,m,a,b,c,d,e⟩ W H lt lr ld && staOk ⟨l,m,a,b,c,d,e⟩ W H lt T Z us) && inB un us.length) && srcOk W H ls) && supU l m lt lr ld W us H d ls (unN us un)) (d - (((wayU l m lt lr ld W us H ls (unN us un)).length:Int) - 1)))∧Kp w w':=by
  have KA:Kp w ((w.alloc (.cells #[.slice At nt ct,.slice Ak nk ck,.int .i64 a,.int .i64 b,.int .i64 c,.int .i64 d,.int .i64 e,.int .i64 W,.int .i64 H,.slice Ax nx cx,.slice Ar nr cr,.slice Ay ny cy] 44)).alloc (.cells #[.int .i64 T,.int .i64 Z,.slice Au nu cu] 48)):=((Kp.refl w).alloc _).alloc _
  have H0:Hid (∀ w',Kp ((w.alloc (.cells #[.slice At nt ct,.slice Ak nk ck,.int .i64 a,.int .i64 b,.int .i64 c,.int .i64 d,.int .i64 e,.int .i64 W,.int .i64 H,.slice Ax nx cx,.slice Ar nr cr,.slice Ay ny cy] 44)).alloc (.cells #[.int .i64 T,.int .i64 Z,.slice Au nu cu] 48)) w'→World.rangeAt w' w.heap.size 0 [.slice At nt ct,.slice Ak nk ck,.int .i64 a,.int .i64 b,.int .i64 c,.int .i64 d,.int .i64 e,.int .i64 W,.int .i64 H,.slice Ax nx cx,.slice Ar nr cr,.slice Ay ny cy]∧World.rangeAt w' (w.heap.size + 1) 0 [.int .i64 T,.int .i64 Z,.slice Au nu cu]):=Lib.hid fun w' k=>by
    have r3:=range_fresh (w.alloc (.cells #[.slice At nt ct,.slice Ak nk ck,.int .i64 a,.int .i64 b,.int .i64 c,.int .i64 d,.int .i64 e,.int .i64 W,.int .i64 H,.slice Ax nx cx,.slice Ar nr cr,.slice Ay ny cy] 44)) [.int .i64 T,.int .i64 Z,.slice Au nu cu] 48
    rw [show (w.alloc (.cells #[.slice At nt ct,.slice Ak nk ck,.int .i64 a,.int .i64 b,.int .i64 c,.int .i64 d,.int .i64 e,.int .i64 W,.int .i64 H,.slice Ax nx cx,.slice Ar nr cr,.slice Ay ny cy] 44)).heap.size=w.heap.size + 1 by simp] at r3
    exact ⟨range_keep (range_fresh w [.slice At nt ct,.slice Ak nk ck,.int .i64 a,.int .i64 b,.int .i64 c,.int .i64 d,.int .i64 e,.int .i64 W,.int .i64 H,.slice Ax nx cx,.slice Ar nr cr,.slice Ay ny cy] 44) (((Kp.refl _).alloc _).trans k),range_keep r3 k⟩
  have I12:Hid ((Tryz.prog.info? 44).map (·.size)=some 12):=Lib.hid (by kernel_rfl)
  have I3:Hid ((Tryz.prog.info? 48).map (·.size)=some 3):=Lib.hid (by kernel_rfl)
  have I17:Hid ((Tryz.prog.info? 80).map (·.size)=some 17):=Lib.hid (by kernel_rfl)
  have I4:Hid ((Tryz.prog.info? 103).map (·.size)=some 4):=Lib.hid (by kernel_rfl)
  have HSP:=Lib.hid hs
  have HT:=Lib.hid ht
  have HU:=Lib.hid hu
  have HB:=Lib.hid hB
  have HS:=Lib.hid hS
  have HQ:=Lib.hid hq
  have CSU:=Lib.hid (fun (w:World) hs ht hu hB hS hq=>supplierOfUnit_any At Ak nt nk ct ck l m a b c d e W H (.slice Ax nx cx) (.slice Ar nr cr) (.slice Ay ny cy) lt lr ld T Z (.slice Au nu cu) us un Aq nq cq ls w hs ht hu hB hS hq hql)
  rw [okx_eq] at CSU
  clear hs ht hu hB hS hq hql
  cases hg:((brdOk ⟨l,m,a,b,c,d,e⟩ W H lt lr ld && staOk ⟨l,m,a,b,c,d,e⟩ W H lt T Z us) && inB un us.length) && srcOk W H ls
  · rw [hg,if_neg Bool.false_ne_true,if_neg Bool.false_ne_true] at CSU
    rw [Bool.false_and]
    clear hg
    go_enter Tryz.func42,Tryz.ntmps42
    go_upto_region 1 with (fail)
    generalize ((w.alloc (.cells #[.slice At nt ct,.slice Ak nk ck,.int .i64 a,.int .i64 b,.int .i64 c,.int .i64 d,.int .i64 e,.int .i64 W,.int .i64 H,.slice Ax nx cx,.slice Ar nr cr,.slice Ay ny cy] 44)).alloc (.cells #[.int .i64 T,.int .i64 Z,.slice Au nu cu] 48))=W0 at *
    obtain ⟨s12,s3⟩:=H0.out W0 (Kp.refl _)
    go_wp2_with (first | ((with_reducible refine load_m s12 Tryz.underlying44 ?_ ?_ ?_ ?_ ?_);exact I12.out;rfl;rfl;rfl) | ((with_reducible refine load_m s3 Tryz.underlying48 ?_ ?_ ?_ ?_ ?_);exact I3.out;rfl;rfl;rfl))
    refine (CSU.out _ (HSP.out.keep KA) (HT.out.keep KA) (HU.out.keep KA) (HB.out.keep KA) (HS.out.keep KA) (HQ.out.keep KA)).mono ?_
    rintro e1 w1 ⟨rfl,q1⟩
    have K1:=KA.trans q1
    clear s12 s3
    have t17:World.there ((w1.alloc (.cells #[.slice none 0 0,.slice none 0 0,.int .i64 0,.int .i64 0,.int .i64 0,.int .i64 0,.int .i64 0,.int .i64 0,.int .i64 0,.slice none 0 0,.slice none 0 0,.slice none 0 0,.int .i64 0,.int .i64 0,.slice none 0 0,.int .i64 0,.slice none 0 0] 80)).alloc (.cells #[.int .i64 0,.int .i64 0,.int .i64 0,.int .i64 0] 103)) w1.heap.size 0 (#[.slice none 0 0,.slice none 0 0,.int .i64 0,.int .i64 0,.int .i64 0,.int .i64 0,.int .i64 0,.int .i64 0,.int .i64 0,.slice none 0 0,.slice none 0 0,.slice none 0 0,.int .i64 0,.int .i64 0,.slice none 0 0,.int .i64 0,.slice none 0 0]:Array Value).size:=World.there_alloc (there_fresh w1 [.slice none 0 0,.slice none 0 0,.int .i64 0,.int .i64 0,.int .i64 0,.int .i64 0,.int .i64 0,.int .i64 0,.int .i64 0,.slice none 0 0,.slice none 0 0,.slice none 0 0,.int .i64 0,.int .i64 0,.slice none 0 0,.int .i64 0,.slice none 0 0] 80) _
    obtain ⟨W9,hW9⟩:∃ W9,W9=((w1.alloc (.cells #[.slice none 0 0,.slice none 0 0,.int .i64 0,.int .i64 0,.int .i64 0,.int .i64 0,.int .i64 0,.int .i64 0,.int .i64 0,.slice none 0 0,.slice none 0 0,.slice none 0 0,.int .i64 0,.int .i64 0,.slice none 0 0,.int .i64 0,.slice none 0 0] 80)).alloc (.cells #[.int .i64 0,.int .i64 0,.int .i64 0,.int .i64 0] 103)).setCells w1.heap.size 0 (#[.slice none 0 0,.slice none 0 0,.int .i64 0,.int .i64 0,.int .i64 0,.int .i64 0,.int .i64 0,.int .i64 0,.int .i64 0,.slice none 0 0,.slice none 0 0,.slice none 0 0,.int .i64 0,.int .i64 0,.slice none 0 0,.int .i64 0,.slice none 0 0]:Array Value).toList:=⟨_,rfl⟩
    have t4:W9.there (w1.heap.size + 1) 0 (#[.int .i64 0,.int .i64 0,.int .i64 0,.int .i64 0]:Array Value).size:=by
      have h:=there_fresh (w1.alloc (.cells #[.slice none 0 0,.slice none 0 0,.int .i64 0,.int .i64 0,.int .i64 0,.int .i64 0,.int .i64 0,.int .i64 0,.int .i64 0,.slice none 0 0,.slice none 0 0,.slice none 0 0,.int .i64 0,.int .i64 0,.slice none 0 0,.int .i64 0,.slice none 0 0] 80)) [.int .i64 0,.int .i64 0,.int .i64 0,.int .i64 0] 103
      rw [show (w1.alloc (.cells #[.slice none 0 0,.slice none 0 0,.int .i64 0,.int .i64 0,.int .i64 0,.int .i64 0,.int .i64 0,.int .i64 0,.int .i64 0,.slice none 0 0,.slice none 0 0,.slice none 0 0,.int .i64 0,.int .i64 0,.slice none 0 0,.int .i64 0,.slice none 0 0] 80)).heap.size=w1.heap.size + 1 by simp] at h
      rw [hW9]
      exact World.there_setCells h _ _ _
    obtain ⟨W10,hW10⟩:∃ W10,W10=W9.setCells (w1.heap.size + 1) 0 (#[.int .i64 0,.int .i64 0,.int .i64 0,.int .i64 0]:Array Value).toList:=⟨_,rfl⟩
    have r9:World.rangeAt W10 w1.heap.size 0 [.slice none 0 0,.slice none 0 0,.int .i64 0,.int .i64 0,.int .i64 0,.int .i64 0,.int .i64 0,.int .i64 0,.int .i64 0,.slice none 0 0,.slice none 0 0,.slice none 0 0,.int .i64 0,.int .i64 0,.slice none 0 0,.int .i64 0,.slice none 0 0]:=by
      rw [hW10,hW9]
      exact World.rangeAt_setCells_apart (World.rangeAt_setCells_same _ _ _ _ t17) _ _ _ (.inl (by omega))
    have r10:World.rangeAt W10 (w1.heap.size + 1) 0 [.int .i64 0,.int .i64 0,.int .i64 0,.int .i64 0]:=by
      rw [hW10]
      exact World.rangeAt_setCells_same _ _ _ _ t4
    have K10:Kp w W10:=by
      have hz:=K1.size
      rw [hW10,hW9]
      exact kp_cells (by omega) _ _ _ (kp_cells (by omega) _ _ _ ((K1.alloc _).alloc _))
    have kW0:Kp W0 W10:=by
      have hz:=q1.size
      rw [hW10,hW9]
      exact kp_cells (by omega) _ _ _ (kp_cells (by omega) _ _ _ ((q1.alloc _).alloc _))
    have HW9:=Lib.hid hW9
    have HW10:=Lib.hid hW10
    clear hW9 hW10
    obtain ⟨s12,s3⟩:=H0.out W10 kW0
    go_wp2_with (first | ((with_reducible refine store_m t17 ?_ ?_ ?_ ?_ ?_ ?_);exact I17.out;(simp [Value.oneCell']);rfl;rfl;rfl;rw [← HW9.out]) | ((with_reducible refine store_m t4 ?_ ?_ ?_ ?_ ?_ ?_);exact I4.out;(simp [Value.oneCell']);rfl;rfl;rfl;rw [← HW10.out]) | ((with_reducible refine load_m r9 Tryz.underlying80 ?_ ?_ ?_ ?_ ?_);exact I17.out;rfl;rfl;rfl) | ((with_reducible refine load_m r10 Tryz.underlying103 ?_ ?_ ?_ ?_ ?_);exact I4.out;rfl;rfl;rfl) | ((with_reducible refine load_m s12 Tryz.underlying44 ?_ ?_ ?_ ?_ ?_);exact I12.out;rfl;rfl;rfl) | ((with_reducible refine load_m s3 Tryz.underlying48 ?_ ?_ ?_ ?_ ?_);exact I3.out;rfl;rfl;rfl))
    go_ret2
    exact ⟨rfl,K10⟩
  · rw [hg,if_pos rfl,if_pos rfl] at CSU
    rw [Bool.true_and]
    simp only [Bool.and_eq_true] at hg
    obtain ⟨⟨⟨hok,hst⟩,hun⟩,hsr⟩:=hg
    obtain ⟨p1,p2,p3,p4⟩:=mapOk_side (brdOk_map hok)
    have hlen:=mapOk_len (brdOk_map hok)
    obtain ⟨zs,k,za,zt,hz,hzs,hkm,hza⟩:=uni_known hst hlen hun
    obtain ⟨hsn,hsb,hsd⟩:=srcOk_nat hsr
    have hsb':=hsb lt.length hlen
    have hsl:(srcN ls).length ≤ 100:=by
      have h1:=(srcOk_parts hsr).1
      unfold srcN
      rw [List.length_map]
      omega
    rw [hz] at CSU ⊢
    have HSN:=Lib.hid hsn
    have CX:=Lib.hid (fun (w:World) ht hB hS hq=>pathTo_any At Ak nt nk ct ck l m a b c d e W H (.slice Ax nx cx) (.slice Ar nr cr) (.slice Ay ny cy) lt lr ld T Z (.slice Au nu cu) us zs Aq nq cq (srcN ls) k zs za zt none 0 0 [] w ht hB hS hok hst hkm hq hsb' hsl hzs ⟨none,0,rfl,fun h=>by cases h⟩ (by simp) hza)
    rw [bl_nil] at CX
    have HE:Hid (supU l m lt lr ld W us H d ls ⟨zs,(k:Int),za,zt⟩=(decide (za ≠ -1) && insB (wayN (fun j=>pasB l m lt lr ld W us zs k j) W H (srcN ls) lt.length za.toNat).length d)):=Lib.hid rfl
    have HW:Hid (wayU l m lt lr ld W us H ls ⟨zs,(k:Int),za,zt⟩=wayN (fun j=>pasB l m lt lr ld W us zs k j) W H (srcN ls) lt.length za.toNat):=Lib.hid rfl
    rw [← HE.out,← HW.out] at CX
    clear HE HW
    generalize supU l m lt lr ld W us H d ls ⟨zs,(k:Int),za,zt⟩=R at CX ⊢
    have hll:(wayU l m lt lr ld W us H ls ⟨zs,(k:Int),za,zt⟩).length ≤ lt.length:=by
      have h1:=way_far (ok:=fun j=>pasB l m lt lr ld W us zs k j) (src:=srcN ls) hlen hsb' za.toNat
      have h2:=farN_bd (ok:=fun j=>pasB l m lt lr ld W us zs k j) (src:=srcN ls) hlen hsb' za.toNat
      show (wayN _ _ _ _ _ _).length ≤ _
      simp only [Int.toNat_natCast]
      omega
    have hA:=area_bd p1 p2 p3 p4
    have hn1:(wayU l m lt lr ld W us H ls ⟨zs,(k:Int),za,zt⟩).length ≤ 100:=by omega
    have hd:=rulOk_sup (brdOk_rul hok)
    have hln:Hid ((ints (wayU l m lt lr ld W us H ls ⟨zs,(k:Int),za,zt⟩)).length=(wayU l m lt lr ld W us H ls ⟨zs,(k:Int),za,zt⟩).length):=Lib.hid (ints_len _)
    generalize wayU l m lt lr ld W us H ls ⟨zs,(k:Int),za,zt⟩=WL at *
    generalize ints WL=IW at *
    generalize WL.length=n at *
    clear hll
    clear hok hst hun hsr hz hzs hkm hza hsn hsb hsb' hsd hsl hlen
    go_enter Tryz.func42,Tryz.ntmps42
    go_upto_region 1 with (fail)
    generalize ((w.alloc (.cells #[.slice At nt ct,.slice Ak nk ck,.int .i64 a,.int .i64 b,.int .i64 c,.int .i64 d,.int .i64 e,.int .i64 W,.int .i64 H,.slice Ax nx cx,.slice Ar nr cr,.slice Ay ny cy] 44)).alloc (.cells #[.int .i64 T,.int .i64 Z,.slice Au nu cu] 48))=W0 at *
    obtain ⟨s12,s3⟩:=H0.out W0 (Kp.refl _)
    go_wp2_with (first | ((with_reducible refine load_m s12 Tryz.underlying44 ?_ ?_ ?_ ?_ ?_);exact I12.out;rfl;rfl;rfl) | ((with_reducible refine load_m s3 Tryz.underlying48 ?_ ?_ ?_ ?_ ?_);exact I3.out;rfl;rfl;rfl))
    refine (CSU.out _ (HSP.out.keep KA) (HT.out.keep KA) (HU.out.keep KA) (HB.out.keep KA) (HS.out.keep KA) (HQ.out.keep KA)).mono ?_
    rintro e1 w1 ⟨rfl,q1⟩
    have K1:=KA.trans q1
    clear s12 s3
    have t17:World.there ((w1.alloc (.cells #[.slice none 0 0,.slice none 0 0,.int .i64 0,.int .i64 0,.int .i64 0,.int .i64 0,.int .i64 0,.int .i64 0,.int .i64 0,.slice none 0 0,.slice none 0 0,.slice none 0 0,.int .i64 0,.int .i64 0,.slice none 0 0,.int .i64 0,.slice none 0 0] 80)).alloc (.cells #[.int .i64 0,.int .i64 0,.int .i64 0,.int .i64 0] 103)) w1.heap.size 0 (#[.slice At nt ct,.slice Ak nk ck,.int .i64 a,.int .i64 b,.int .i64 c,.int .i64 d,.int .i64 e,.int .i64 W,.int .i64 H,.slice Ax nx cx,.slice Ar nr cr,.slice Ay ny cy,.int .i64 T,.int .i64 Z,.slice Au nu cu,.int .i64 zs,.slice Aq nq cq]:Array Value).size:=World.there_alloc (there_fresh w1 [.slice none 0 0,.slice none 0 0,.int .i64 0,.int .i64 0,.int .i64 0,.int .i64 0,.int .i64 0,.int .i64 0,.int .i64 0,.slice none 0 0,.slice none 0 0,.slice none 0 0,.int .i64 0,.int .i64 0,.slice none 0 0,.int .i64 0,.slice none 0 0] 80) _
    obtain ⟨W9,hW9⟩:∃ W9,W9=((w1.alloc (.cells #[.slice none 0 0,.slice none 0 0,.int .i64 0,.int .i64 0,.int .i64 0,.int .i64 0,.int .i64 0,.int .i64 0,.int .i64 0,.slice none 0 0,.slice none 0 0,.slice none 0 0,.int .i64 0,.int .i64 0,.slice none 0 0,.int .i64 0,.slice none 0 0] 80)).alloc (.cells #[.int .i64 0,.int .i64 0,.int .i64 0,.int .i64 0] 103)).setCells w1.heap.size 0 (#[.slice At nt ct,.slice Ak nk ck,.int .i64 a,.int .i64 b,.int .i64 c,.int .i64 d,.int .i64 e,.int .i64 W,.int .i64 H,.slice Ax nx cx,.slice Ar nr cr,.slice Ay ny cy,.int .i64 T,.int .i64 Z,.slice Au nu cu,.int .i64 zs,.slice Aq nq cq]:Array Value).toList:=⟨_,rfl⟩
    have t4:W9.there (w1.heap.size + 1) 0 (#[.int .i64 zs,.int .i64 (k:Int),.int .i64 za,.int .i64 zt]:Array Value).size:=by
      have h:=there_fresh (w1.alloc (.cells #[.slice none 0 0,.slice none 0 0,.int .i64 0,.int .i64 0,.int .i64 0,.int .i64 0,.int .i64 0,.int .i64 0,.int .i64 0,.slice none 0 0,.slice none 0 0,.slice none 0 0,.int .i64 0,.int .i64 0,.slice none 0 0,.int .i64 0,.slice none 0 0] 80)) [.int .i64 0,.int .i64 0,.int .i64 0,.int .i64 0] 103
      rw [show (w1.alloc (.cells #[.slice none 0 0,.slice none 0 0,.int .i64 0,.int .i64 0,.int .i64 0,.int .i64 0,.int .i64 0,.int .i64 0,.int .i64 0,.slice none 0 0,.slice none 0 0,.slice none 0 0,.int .i64 0,.int .i64 0,.slice none 0 0,.int .i64 0,.slice none 0 0] 80)).heap.size=w1.heap.size + 1 by simp] at h
      rw [hW9]
      exact World.there_setCells h _ _ _
    obtain ⟨W10,hW10⟩:∃ W10,W10=W9.setCells (w1.heap.size + 1) 0 (#[.int .i64 zs,.int .i64 (k:Int),.int .i64 za,.int .i64 zt]:Array Value).toList:=⟨_,rfl⟩
    have r9:World.rangeAt W10 w1.heap.size 0 [.slice At nt ct,.slice Ak nk ck,.int .i64 a,.int .i64 b,.int .i64 c,.int .i64 d,.int .i64 e,.int .i64 W,.int .i64 H,.slice Ax nx cx,.slice Ar nr cr,.slice Ay ny cy,.int .i64 T,.int .i64 Z,.slice Au nu cu,.int .i64 zs,.slice Aq nq cq]:=by
      rw [hW10,hW9]
      exact World.rangeAt_setCells_apart (World.rangeAt_setCells_same _ _ _ _ t17) _ _ _ (.inl (by omega))
    have r10:World.rangeAt W10 (w1.heap.size + 1) 0 [.int .i64 zs,.int .i64 (k:Int),.int .i64 za,.int .i64 zt]:=by
      rw [hW10]
      exact World.rangeAt_setCells_same _ _ _ _ t4
    have K10:Kp w W10:=by
      have hz:=K1.size
      rw [hW10,hW9]
      exact kp_cells (by omega) _ _ _ (kp_cells (by omega) _ _ _ ((K1.alloc _).alloc _))
    have kW0:Kp W0 W10:=by
      have hz:=q1.size
      rw [hW10,hW9]
      exact kp_cells (by omega) _ _ _ (kp_cells (by omega) _ _ _ ((q1.alloc _).alloc _))
    have HW9:=Lib.hid hW9
    have HW10:=Lib.hid hW10
    clear hW9 hW10
    obtain ⟨s12,s3⟩:=H0.out W10 kW0
    go_wp2_with (first | ((with_reducible refine store_m t17 ?_ ?_ ?_ ?_ ?_ ?_);exact I17.out;(simp [Value.oneCell']);rfl;rfl;rfl;rw [← HW9.out]) | ((with_reducible refine store_m t4 ?_ ?_ ?_ ?_ ?_ ?_);exact I4.out;(simp [Value.oneCell']);rfl;rfl;rfl;rw [← HW10.out]) | ((with_reducible refine load_m r9 Tryz.underlying80 ?_ ?_ ?_ ?_ ?_);exact I17.out;rfl;rfl;rfl) | ((with_reducible refine load_m r10 Tryz.underlying103 ?_ ?_ ?_ ?_ ?_);exact I4.out;rfl;rfl;rfl) | ((with_reducible refine load_m s12 Tryz.underlying44 ?_ ?_ ?_ ?_ ?_);exact I12.out;rfl;rfl;rfl) | ((with_reducible refine load_m s3 Tryz.underlying48 ?_ ?_ ?_ ?_ ?_);exact I3.out;rfl;rfl;rfl))
    refine (CX.out _ (HT.out.keep K10) (HB.out.keep K10) (HS.out.keep K10) (by rw [HSN.out];exact HQ.out.keep K10)).mono ?_
    rintro e2 w2 ⟨v2,rfl,o2,k2⟩
    obtain ⟨A2,c2,n2,hv2,hn2⟩:∃ A c n',v2=.slice A n' c∧(R=true→n'=n):=by
      obtain ⟨A,c,h⟩:=o2.slice
      exact ⟨A,c,_,h,fun hR=>by rw [if_pos hR];exact hln.out⟩
    subst hv2
    clear o2
    have HN2:=Lib.hid hn2
    clear hn2
    obtain ⟨s12,s3⟩:=H0.out w2 (kW0.trans k2)
    have dR:=range_at s12 5 _ rfl
    have hw:IntKind.i64.wrap (d - ((n:Int) - 1))=d - ((n:Int) - 1):=IntWalk.i64_in _ (by omega)
    cases R
    · go_wp2_with fail
      go_ret2
      exact ⟨rfl,K10.trans k2⟩
    · obtain rfl:=HN2.out rfl
      have CS:=Lib.hid (fun w=>stepsOf_any A2 n2 c2 w (by omega))
      go_wp2_with fail
      have sg:w2.drew.cell? ⟨w.heap.size,5,none⟩=some (.int .i64 d)∧Kp w w2.drew:=⟨dR,(K10.trans k2).drew⟩
      refine wp_region_held_drew (S:=(fun w'=>w'.cell? ⟨w.heap.size,5,none⟩=some (.int .i64 d)∧Kp w w')) (by kernel_rfl) ?_ (fun hHeld=>?_)
      · assumption
      generalize w2.drew=V at *
      refine tk 0 ⟨some 33,_,_,_,_,_⟩ ?_ rfl (by kernel_rfl) (fun _ _ _ h=>h) (by rfl) ?_ (by assumption) ?_
      rotate_left
      · intro w hSw;(try dsimp only at hSw);go_simp;(all_goals with_reducible rfl)
      try simp only [Act.put,sA,sB,sC]
      refine tk 1 ⟨some 34,_,_,_,_,_⟩ ?_ rfl (by kernel_rfl) (fun _ _ _ h=>h) (by rfl) ?_ (by assumption) ?_
      rotate_left
      · intro w hSw;(try dsimp only at hSw);go_simp;(all_goals with_reducible rfl)
      try simp only [Act.put,sA,sB,sC]
      refine tk 2 ⟨some 35,_,_,_,_,_⟩ ?_ rfl (by kernel_rfl) (fun _ _ _ h=>h) (by rfl) ?_ (by assumption) ?_
      rotate_left
      · intro w hSw;(try dsimp only at hSw);go_simp;(all_goals with_reducible rfl)
      try simp only [Act.put,sA,sB,sC]
      refine tk 3 ⟨some 36,_,_,_,_,_⟩ ?_ rfl (by kernel_rfl) (fun _ _ _ h=>h) (by rfl) ?_ (by assumption) ?_
      rotate_left
      · intro w hSw;(try dsimp only at hSw);go_simp;(all_goals with_reducible rfl)
      try simp only [Act.put,sA,sB,sC]
      refine wpAnyH_ready (rs:=[4]) (by kernel_rfl) (by simp) ?_
      refine (AllReadyH.cons (o:=⟨some 37,_,_,_,_,_⟩) rfl (fun K hK=>?_) AllReadyH.nil)
      go_simp
      refine (CS.out _).mono ?_
      rintro e5 w5 ⟨rfl,rfl⟩
      go_wp2_with fail
      refine hK.out _ _ ?_ (fun hHeld=>?_)
      · (try dsimp only);(first | assumption)
      clear hK K
      try simp only [Act.put,sA,sB,sC]
      refine tk 5 ⟨some 38,_,_,_,_,_⟩ ?_ rfl (by kernel_rfl) (fun _ _ _ h=>h) (by rfl) ?_ (by assumption) ?_
      rotate_left
      · intro w hSw;(try dsimp only at hSw);go_simp;(all_goals with_reducible rfl)
      try simp only [Act.put,sA,sB,sC]
      refine tk 6 ⟨some 8,_,_,_,_,_⟩ ?_ rfl (by kernel_rfl) (fun _ _ _ h=>h) (by rfl) ?_ (by assumption) ?_
      rotate_left
      · intro w hSw;(try dsimp only at hSw);go_simp;(all_goals with_reducible rfl)
      try simp only [Act.put,sA,sB,sC]
      refine tk 7 ⟨some 9,_,_,_,_,_⟩ ?_ rfl (by kernel_rfl) (fun _ _ _ h=>h) (by rfl) ?_ (by assumption) ?_
      rotate_left
      · intro w hSw;(try dsimp only at hSw);go_simp;(all_goals with_reducible rfl)
      try simp only [Act.put,sA,sB,sC]
      refine wpAnyH_done (by kernel_rfl) ?_ _
      go_wp2_with fail
      go_ret2
      exact ⟨rfl,hHeld.2⟩
theorem supplyMarginP_any (At Ak:Option Addr) (nt nk ct ck:Nat) (l:List Ter) (m:List Knd) (a b c d e W H:Int) (x r y:Value) (lt lr ld:List Int) (T Z:Int) (u:Value) (us:List Uni) (un:Int) (Aq:Option Addr) (nq cq:Nat) (ls:List Int) (w:World) (hs:Spans w) (ht:Tab w) (hu:SpU w) (hB:BrdAt w At Ak nt nk l m x r y lt lr ld) (hS:StaAt w u us) (hq:RdI w (.slice Aq nq cq) ls) (hql:ls.length ≤ 1048576) :
    Calls Tryz.prog 42 #[bv (.slice At nt ct) (.slice Ak nk ck) a b c d e W H x r y,sv T Z u,.int .i64 un,.slice Aq nq cq] w fun e' w'=>e'=.returned (ib ((((brdOk ⟨l,m,a,b,c,d,e⟩ W H lt lr ld && staOk ⟨l,m,a,b,c,d,e⟩ W H lt T Z us) && inB un us.length) && srcOk W H ls) && supU l m lt lr ld W us H d ls (unN us un)) (d - (((wayU l m lt lr ld W us H ls (unN us un)).length:Int) - 1)))∧Kp w w':=by
  obtain ⟨Ax,cx,rfl,_⟩:=hB.L.rt
  obtain ⟨Ar,cr,rfl,_⟩:=hB.L.rr
  obtain ⟨Ay,cy,rfl,_⟩:=hB.L.rd
  obtain ⟨Au,cu,rfl,_⟩:=hS.rd
  exact supplyMarginP_s At Ak nt nk ct ck l m a b c d e W H Ax Ar Ay lt.length cx lr.length cr ld.length cy lt lr ld T Z Au us.length cu us un Aq nq cq ls w hs ht hu hB hS hq hql
end Go.Proofs.YtgefinicjphmpaaGreatDoor
