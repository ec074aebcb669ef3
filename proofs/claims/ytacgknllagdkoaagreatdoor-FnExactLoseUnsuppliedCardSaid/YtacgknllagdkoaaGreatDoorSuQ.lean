/-
 LoseUnsupplied of the program: a new state. Nothing that was there is changed. The named variables hold what the program's text lays.
-/
import Derived.Deep.Cut
import Derived.Deep.RegionHeld3
import Derived.Test.YtacgknllagdkoaaGreatDoorSuL
import Derived.Test.YtacgknllagdkoaaGreatDoorQa
import Derived.Test.YtacgknllagdkoaaGreatDoorQn
import Derived.Test.YtacgknllagdkoaaGreatDoorQa
namespace Go.Proofs.YtacgknllagdkoaaGreatDoor
open Go.RowKit
set_option maxRecDepth 100000 in
set_option maxHeartbeats 4000000 in
theorem loseUnsuppliedP_s (At Ak:Option Addr) (nt nk ct ck:Nat) (l:List Ter) (m:List Knd) (a b c d e W H:Int) (Ax Ar Ay:Option Addr) (nx cx nr cr ny cy:Nat) (lt lr ld:List Int) (T Z:Int) (g off N cp:Nat) (us:List Uni) (sd:Int) (Aq:Option Addr) (nq cq:Nat) (ls:List Int) (w:World) (hs:Spans w) (ht:Tab w) (hu:SpU w) (hB:BrdAt w At Ak nt nk l m (.slice Ax nx cx) (.slice Ar nr cr) (.slice Ay ny cy) lt lr ld) (hS:StaAt w (.slice (some ⟨g,off,none⟩) N cp) us) (hN:us.length=N) (hq:RdI w (.slice Aq nq cq) ls) (hql:ls.length≤1048576) :
  Calls Tryz.prog 52 #[bv (.slice At nt ct) (.slice Ak nk ck) a b c d e W H (.slice Ax nx cx) (.slice Ar nr cr) (.slice Ay ny cy),sv T Z (.slice (some ⟨g,off,none⟩) N cp),.int .i64 sd,.slice Aq nq cq] w (StPost (((brdOk ⟨l,m,a,b,c,d,e⟩ W H lt lr ld && staOk ⟨l,m,a,b,c,d,e⟩ W H lt T Z us) && spB 0 1 sd) && srcOk W H ls) T Z (lsU (fun z=>ofSide0 sd z && !supU l m lt lr ld W us H d ls z) us) w):=by
 have KA:Kp w (((w.alloc (.cells #[.slice At nt ct,.slice Ak nk ck,.int .i64 a,.int .i64 b,.int .i64 c,.int .i64 d,.int .i64 e,.int .i64 W,.int .i64 H,.slice Ax nx cx,.slice Ar nr cr,.slice Ay ny cy] 47)).alloc (.cells #[.int .i64 T,.int .i64 Z,(.slice (some ⟨g,off,none⟩) N cp)] 51)).alloc (.cells #[.int .i64 0,.int .i64 0,.slice none 0 0] 51)):=(((Kp.refl w).alloc _).alloc _).alloc _
 have H0:Hid (∀ w',Kp (((w.alloc (.cells #[.slice At nt ct,.slice Ak nk ck,.int .i64 a,.int .i64 b,.int .i64 c,.int .i64 d,.int .i64 e,.int .i64 W,.int .i64 H,.slice Ax nx cx,.slice Ar nr cr,.slice Ay ny cy] 47)).alloc (.cells #[.int .i64 T,.int .i64 Z,(.slice (some ⟨g,off,none⟩) N cp)] 51)).alloc (.cells #[.int .i64 0,.int .i64 0,.slice none 0 0] 51)) w'→World.rangeAt w' w.heap.size 0 [.slice At nt ct,.slice Ak nk ck,.int .i64 a,.int .i64 b,.int .i64 c,.int .i64 d,.int .i64 e,.int .i64 W,.int .i64 H,.slice Ax nx cx,.slice Ar nr cr,.slice Ay ny cy]∧World.rangeAt w' (w.heap.size+1) 0 [.int .i64 T,.int .i64 Z,(.slice (some ⟨g,off,none⟩) N cp)]):=Lib.hid fun w' k=>by
   have r3:=range_fresh (w.alloc (.cells #[.slice At nt ct,.slice Ak nk ck,.int .i64 a,.int .i64 b,.int .i64 c,.int .i64 d,.int .i64 e,.int .i64 W,.int .i64 H,.slice Ax nx cx,.slice Ar nr cr,.slice Ay ny cy] 47)) [.int .i64 T,.int .i64 Z,(.slice (some ⟨g,off,none⟩) N cp)] 51
   rw [show (w.alloc (.cells #[.slice At nt ct,.slice Ak nk ck,.int .i64 a,.int .i64 b,.int .i64 c,.int .i64 d,.int .i64 e,.int .i64 W,.int .i64 H,.slice Ax nx cx,.slice Ar nr cr,.slice Ay ny cy] 47)).heap.size=w.heap.size+1 by simp] at r3
   exact⟨range_keep (range_fresh w [.slice At nt ct,.slice Ak nk ck,.int .i64 a,.int .i64 b,.int .i64 c,.int .i64 d,.int .i64 e,.int .i64 W,.int .i64 H,.slice Ax nx cx,.slice Ar nr cr,.slice Ay ny cy] 47) ((((Kp.refl _).alloc _).alloc _).trans k),range_keep r3 (((Kp.refl _).alloc _).trans k)⟩
 have I12:Hid ((Tryz.prog.info? 47).map (·.size)=some 12):=Lib.hid (by kernel_rfl)
 have I3:Hid ((Tryz.prog.info? 51).map (·.size)=some 3):=Lib.hid (by kernel_rfl)
 have I17:Hid ((Tryz.prog.info? 147).map (·.size)=some 17):=Lib.hid (by kernel_rfl)
 have I4:Hid ((Tryz.prog.info? 152).map (·.size)=some 4):=Lib.hid (by kernel_rfl)
 have I5:Hid ((Tryz.prog.info? 45).map (·.size)=some 5):=Lib.hid (by kernel_rfl)
 have HSP:=Lib.hid hs
 have HT:=Lib.hid ht
 have HU:=Lib.hid hu
 have HB:=Lib.hid hB
 have HS:=Lib.hid hS
 have HQ:=Lib.hid hq
 have HLR:Hid (∀ w',Kp (((w.alloc (.cells #[.slice At nt ct,.slice Ak nk ck,.int .i64 a,.int .i64 b,.int .i64 c,.int .i64 d,.int .i64 e,.int .i64 W,.int .i64 H,.slice Ax nx cx,.slice Ar nr cr,.slice Ay ny cy] 47)).alloc (.cells #[.int .i64 T,.int .i64 Z,(.slice (some ⟨g,off,none⟩) N cp)] 51)).alloc (.cells #[.int .i64 0,.int .i64 0,.slice none 0 0] 51)) w'→LivS w' (w.heap.size+1+1) (.int .i64 0) (.int .i64 0) (.slice none 0 0)):=Lib.hid fun w' k=>livS_keep k ⟨by simp [go_sem],by simp [go_sem],by simp [go_sem]⟩
 have zA:(((w.alloc (.cells #[.slice At nt ct,.slice Ak nk ck,.int .i64 a,.int .i64 b,.int .i64 c,.int .i64 d,.int .i64 e,.int .i64 W,.int .i64 H,.slice Ax nx cx,.slice Ar nr cr,.slice Ay ny cy] 47)).alloc (.cells #[.int .i64 T,.int .i64 Z,(.slice (some ⟨g,off,none⟩) N cp)] 51)).alloc (.cells #[.int .i64 0,.int .i64 0,.slice none 0 0] 51)).heap.size=w.heap.size+1+1+1:=by simp
 have hn6:=hS.b
 rw [hN] at hn6
 have CC:Hid (∀ w,RdU w (.slice (some ⟨g,off,none⟩) N cp) us→Calls Tryz.prog 107 #[sv T Z (.slice (some ⟨g,off,none⟩) N cp)] w fun e w'=>∃ A' c',e=.returned (sv T Z (.slice A' N c'))∧OwnU w' w.heap.size (.slice A' N c') us∧Kp w w'):=Lib.hid fun w h=>copyState_any T Z g off N cp us w h hN hn6
 have CSU:=Lib.hid (fun (w:World) hs ht hu hB hS hq=>supplierOf_any At Ak nt nk ct ck l m a b c d e W H (.slice Ax nx cx) (.slice Ar nr cr) (.slice Ay ny cy) lt lr ld T Z (.slice (some ⟨g,off,none⟩) N cp) us sd Aq nq cq ls w hs ht hu hB hS hq hql)
 cases hg:((brdOk ⟨l,m,a,b,c,d,e⟩ W H lt lr ld && staOk ⟨l,m,a,b,c,d,e⟩ W H lt T Z us) && spB 0 1 sd) && srcOk W H ls
 ·rw [hg,if_neg Bool.false_ne_true] at CSU
  clear hg CC hs ht hu hB hS hq hql hN
  go_enter Tryz.func52,Tryz.ntmps52
  go_upto_region 1 with (fail)
  generalize (((w.alloc (.cells #[.slice At nt ct,.slice Ak nk ck,.int .i64 a,.int .i64 b,.int .i64 c,.int .i64 d,.int .i64 e,.int .i64 W,.int .i64 H,.slice Ax nx cx,.slice Ar nr cr,.slice Ay ny cy] 47)).alloc (.cells #[.int .i64 T,.int .i64 Z,(.slice (some ⟨g,off,none⟩) N cp)] 51)).alloc (.cells #[.int .i64 0,.int .i64 0,.slice none 0 0] 51))=W0 at *
  obtain⟨s12,s3⟩:=H0.out W0 (Kp.refl _)
  go_wp2_with (first | ((with_reducible refine load_m s12 Tryz.underlying47 ?_ ?_ ?_ ?_ ?_);exact I12.out;rfl;rfl;rfl) | ((with_reducible refine load_m s3 Tryz.underlying51 ?_ ?_ ?_ ?_ ?_);exact I3.out;rfl;rfl;rfl))
  refine(CSU.out _ (HSP.out.keep KA) (HT.out.keep KA) (HU.out.keep KA) (HB.out.keep KA) (HS.out.keep KA) (HQ.out.keep KA)).mono ?_
  rintro e1 w1 ⟨rfl,q1⟩
  have K1:=KA.trans q1
  clear s12 s3
  have t17:World.there (w1.alloc (.cells #[.slice none 0 0,.slice none 0 0,.int .i64 0,.int .i64 0,.int .i64 0,.int .i64 0,.int .i64 0,.int .i64 0,.int .i64 0,.slice none 0 0,.slice none 0 0,.slice none 0 0,.int .i64 0,.int .i64 0,.slice none 0 0,.int .i64 0,.slice none 0 0] 147)) w1.heap.size 0 (#[.slice none 0 0,.slice none 0 0,.int .i64 0,.int .i64 0,.int .i64 0,.int .i64 0,.int .i64 0,.int .i64 0,.int .i64 0,.slice none 0 0,.slice none 0 0,.slice none 0 0,.int .i64 0,.int .i64 0,.slice none 0 0,.int .i64 0,.slice none 0 0]:Array Value).size:=there_fresh w1 [.slice none 0 0,.slice none 0 0,.int .i64 0,.int .i64 0,.int .i64 0,.int .i64 0,.int .i64 0,.int .i64 0,.int .i64 0,.slice none 0 0,.slice none 0 0,.slice none 0 0,.int .i64 0,.int .i64 0,.slice none 0 0,.int .i64 0,.slice none 0 0] 147
  obtain⟨W9,hW9⟩:∃ W9,W9=(w1.alloc (.cells #[.slice none 0 0,.slice none 0 0,.int .i64 0,.int .i64 0,.int .i64 0,.int .i64 0,.int .i64 0,.int .i64 0,.int .i64 0,.slice none 0 0,.slice none 0 0,.slice none 0 0,.int .i64 0,.int .i64 0,.slice none 0 0,.int .i64 0,.slice none 0 0] 147)).setCells w1.heap.size 0 (#[.slice none 0 0,.slice none 0 0,.int .i64 0,.int .i64 0,.int .i64 0,.int .i64 0,.int .i64 0,.int .i64 0,.int .i64 0,.slice none 0 0,.slice none 0 0,.slice none 0 0,.int .i64 0,.int .i64 0,.slice none 0 0,.int .i64 0,.slice none 0 0]:Array Value).toList:=⟨_,rfl⟩
  have r9:World.rangeAt W9 w1.heap.size 0 [.slice none 0 0,.slice none 0 0,.int .i64 0,.int .i64 0,.int .i64 0,.int .i64 0,.int .i64 0,.int .i64 0,.int .i64 0,.slice none 0 0,.slice none 0 0,.slice none 0 0,.int .i64 0,.int .i64 0,.slice none 0 0,.int .i64 0,.slice none 0 0]:=by
   rw [hW9]
   exact World.rangeAt_setCells_same _ _ _ _ t17
  have K9:Kp w W9:=by
   have hz:=K1.size
   rw [hW9]
   exact kp_cells (by omega) _ _ _ (K1.alloc _)
  have kW0:Kp W0 W9:=by
   have hz:=q1.size
   rw [hW9]
   exact kp_cells (by omega) _ _ _ (q1.alloc _)
  have HW9:=Lib.hid hW9
  clear hW9
  obtain⟨s12,s3⟩:=H0.out W9 kW0
  have s5:=range_part s12 7 5
  have l9:=HLR.out W9 kW0
  go_wp2_with (first | ((with_reducible refine store_m t17 ?_ ?_ ?_ ?_ ?_ ?_);exact I17.out;(simp [Value.oneCell']);rfl;rfl;rfl;rw [← HW9.out]) | ((with_reducible refine load_m r9 Tryz.underlying147 ?_ ?_ ?_ ?_ ?_);exact I17.out;rfl;rfl;rfl) | ((with_reducible refine load_m s12 Tryz.underlying47 ?_ ?_ ?_ ?_ ?_);exact I12.out;rfl;rfl;rfl) | ((with_reducible refine load_m s3 Tryz.underlying51 ?_ ?_ ?_ ?_ ?_);exact I3.out;rfl;rfl;rfl) | ((with_reducible refine load_m s5 Tryz.underlying45 ?_ ?_ ?_ ?_ ?_);exact I5.out;rfl;rfl;rfl))
  have hz9:=K9.size
  have hzA:=KA.size
  exact bodyPost_ret (v:=.tuple #[sv 0 0 (.slice none 0 0),.bool false]) (by simp [results,Tryz.results52,go_sem, *]) rfl (StPost.no (((K9.setCell (by simp <;> omega) _).setCell (by simp <;> omega) _).setCell (by simp <;> omega) _))
 ·rw [hg,if_pos rfl] at CSU
  simp only [Bool.and_eq_true] at hg
  obtain⟨⟨⟨hok,hst⟩,hsd0⟩,hsr⟩:=hg
  have hsd:sd=0∨sd=1:=by
   simp only [spB,Bool.and_eq_true,decide_eq_true_iff] at hsd0
   omega
  obtain⟨p1,p2,p3,p4⟩:=mapOk_side (brdOk_map hok)
  have hlen:=mapOk_len (brdOk_map hok)
  obtain⟨hsn,hsb,hsd2⟩:=srcOk_nat hsr
  have hsb':=hsb lt.length hlen
  have hsl:(srcN ls).length≤100:=by
   have h1:=(srcOk_parts hsr).1
   unfold srcN
   rw [List.length_map]
   omega
  have HSN:=Lib.hid hsn
  have hu12:=(staOk_parts hst).2.1
  have CPU:Hid (∀ z ∈ us,∃ kk:Nat,z.k=kk∧(isI64 z.t∧0≤z.t)∧(z.a=-1∨0≤z.a)∧∀ w,Tab w→BrdAt w At Ak nt nk l m (.slice Ax nx cx) (.slice Ar nr cr) (.slice Ay ny cy) lt lr ld→StaAt w (.slice (some ⟨g,off,none⟩) N cp) us→RdI w (.slice Aq nq cq) (ints (srcN ls))→z.s=sd→Calls Tryz.prog 109 #[.agg #[.slice At nt ct,.slice Ak nk ck,.int .i64 a,.int .i64 b,.int .i64 c,.int .i64 d,.int .i64 e,.int .i64 W,.int .i64 H,.slice Ax nx cx,.slice Ar nr cr,.slice Ay ny cy,.int .i64 T,.int .i64 Z,(.slice (some ⟨g,off,none⟩) N cp),.int .i64 sd,.slice Aq nq cq],.agg #[.int .i64 z.s,.int .i64 (kk:Int),.int .i64 z.a,.int .i64 z.t],.slice none 0 0] w fun e' w'=>e'=.returned (.bool (supU l m lt lr ld W us H d ls z))∧Kp w w'):=Lib.hid fun z hz=>by
   have hu:=(staOk_parts hst).2.2.1 z hz
   obtain⟨jj,_,h5,h6',_,_⟩:=uniOk_kind hu
   have h7:z.a=-1∨(0≤z.a∧z.a<lt.length):=by
    by_cases ha:z.a=-1
    ·exact .inl ha
    ·obtain⟨g1,g2⟩:=onI_true (uniOk_on hu ha)
     exact .inr ⟨g1,by omega⟩
   have hT:=(uniOk_side hu).2.2.1
   refine⟨jj,h5,⟨(hS.i z hz).2.2.2,hT.1⟩,(by omega),fun w ht hB hS hq hzs=>?_⟩
   obtain⟨zs,zk,za,zt⟩:=z
   simp only at h5 h7 hzs
   subst h5 hzs
   have h:=supplies_any At Ak nt nk ct ck l m a b c d e W H (.slice Ax nx cx) (.slice Ar nr cr) (.slice Ay ny cy) lt lr ld T Z (.slice (some ⟨g,off,none⟩) N cp) us zs Aq nq cq (srcN ls) jj zs za zt none 0 0 [] w ht hB hS hok hst h6' hq hsb' hsl hsd ⟨none,0,rfl,fun h=>by cases h⟩ (by simp) h7
   rw [bl_nil] at h
   have e:(decide (za ≠ -1) && insB (wayN (fun j=>pasB l m lt lr ld W us zs jj j) W H (srcN ls) lt.length za.toNat).length d)=supU l m lt lr ld W us H d ls ⟨zs,(jj:Int),za,zt⟩:=by simp [supU,wayU]
   rw [e] at h
   exact h
  have HA:Hid (∀ q z,us[q]?=some z→UniAt w g (off+q*4) z):=Lib.hid fun q z hz=>by
   obtain⟨A2,c2,e2,h2⟩:=hS.rd
   simp only [Value.slice.injEq] at e2
   obtain⟨e2,_,_⟩:=e2
   obtain⟨g2,o2,e3,h3⟩:=h2 (by have:=(List.getElem?_eq_some_iff.1 hz).1;omega)
   rw [← e2] at e3
   simp only [Option.some.injEq,Addr.mk.injEq] at e3
   obtain⟨rfl,rfl,_⟩:=e3
   exact h3 q z hz
  have HN:=Lib.hid hN
  clear hok hst hsd0 hsd hsr hlen hsn hsb hsb' hsd2 hsl p1 p2 p3 p4 hs ht hu hB hS hq hql hN
  go_enter Tryz.func52,Tryz.ntmps52
  go_upto_region 1 with (fail)
  generalize (((w.alloc (.cells #[.slice At nt ct,.slice Ak nk ck,.int .i64 a,.int .i64 b,.int .i64 c,.int .i64 d,.int .i64 e,.int .i64 W,.int .i64 H,.slice Ax nx cx,.slice Ar nr cr,.slice Ay ny cy] 47)).alloc (.cells #[.int .i64 T,.int .i64 Z,(.slice (some ⟨g,off,none⟩) N cp)] 51)).alloc (.cells #[.int .i64 0,.int .i64 0,.slice none 0 0] 51))=W0 at *
  obtain⟨s12,s3⟩:=H0.out W0 (Kp.refl _)
  go_wp2_with (first | ((with_reducible refine load_m s12 Tryz.underlying47 ?_ ?_ ?_ ?_ ?_);exact I12.out;rfl;rfl;rfl) | ((with_reducible refine load_m s3 Tryz.underlying51 ?_ ?_ ?_ ?_ ?_);exact I3.out;rfl;rfl;rfl))
  refine(CSU.out _ (HSP.out.keep KA) (HT.out.keep KA) (HU.out.keep KA) (HB.out.keep KA) (HS.out.keep KA) (HQ.out.keep KA)).mono ?_
  rintro e1 w1 ⟨rfl,q1⟩
  have K1:=KA.trans q1
  clear s12 s3
  have t17:World.there (w1.alloc (.cells #[.slice none 0 0,.slice none 0 0,.int .i64 0,.int .i64 0,.int .i64 0,.int .i64 0,.int .i64 0,.int .i64 0,.int .i64 0,.slice none 0 0,.slice none 0 0,.slice none 0 0,.int .i64 0,.int .i64 0,.slice none 0 0,.int .i64 0,.slice none 0 0] 147)) w1.heap.size 0 (#[.slice At nt ct,.slice Ak nk ck,.int .i64 a,.int .i64 b,.int .i64 c,.int .i64 d,.int .i64 e,.int .i64 W,.int .i64 H,.slice Ax nx cx,.slice Ar nr cr,.slice Ay ny cy,.int .i64 T,.int .i64 Z,(.slice (some ⟨g,off,none⟩) N cp),.int .i64 sd,.slice Aq nq cq]:Array Value).size:=there_fresh w1 [.slice none 0 0,.slice none 0 0,.int .i64 0,.int .i64 0,.int .i64 0,.int .i64 0,.int .i64 0,.int .i64 0,.int .i64 0,.slice none 0 0,.slice none 0 0,.slice none 0 0,.int .i64 0,.int .i64 0,.slice none 0 0,.int .i64 0,.slice none 0 0] 147
  obtain⟨W9,hW9⟩:∃ W9,W9=(w1.alloc (.cells #[.slice none 0 0,.slice none 0 0,.int .i64 0,.int .i64 0,.int .i64 0,.int .i64 0,.int .i64 0,.int .i64 0,.int .i64 0,.slice none 0 0,.slice none 0 0,.slice none 0 0,.int .i64 0,.int .i64 0,.slice none 0 0,.int .i64 0,.slice none 0 0] 147)).setCells w1.heap.size 0 (#[.slice At nt ct,.slice Ak nk ck,.int .i64 a,.int .i64 b,.int .i64 c,.int .i64 d,.int .i64 e,.int .i64 W,.int .i64 H,.slice Ax nx cx,.slice Ar nr cr,.slice Ay ny cy,.int .i64 T,.int .i64 Z,(.slice (some ⟨g,off,none⟩) N cp),.int .i64 sd,.slice Aq nq cq]:Array Value).toList:=⟨_,rfl⟩
  have r9:World.rangeAt W9 w1.heap.size 0 [.slice At nt ct,.slice Ak nk ck,.int .i64 a,.int .i64 b,.int .i64 c,.int .i64 d,.int .i64 e,.int .i64 W,.int .i64 H,.slice Ax nx cx,.slice Ar nr cr,.slice Ay ny cy,.int .i64 T,.int .i64 Z,(.slice (some ⟨g,off,none⟩) N cp),.int .i64 sd,.slice Aq nq cq]:=by
   rw [hW9]
   exact World.rangeAt_setCells_same _ _ _ _ t17
  have K9:Kp w W9:=by
   have hz:=K1.size
   rw [hW9]
   exact kp_cells (by omega) _ _ _ (K1.alloc _)
  have kW0:Kp W0 W9:=by
   have hz:=q1.size
   rw [hW9]
   exact kp_cells (by omega) _ _ _ (q1.alloc _)
  have HW9:=Lib.hid hW9
  clear hW9
  obtain⟨s12,s3⟩:=H0.out W9 kW0
  have s5:=range_part s12 7 5
  have l9:=HLR.out W9 kW0
  go_wp2_with (first | ((with_reducible refine store_m t17 ?_ ?_ ?_ ?_ ?_ ?_);exact I17.out;(simp [Value.oneCell']);rfl;rfl;rfl;rw [← HW9.out]) | ((with_reducible refine load_m r9 Tryz.underlying147 ?_ ?_ ?_ ?_ ?_);exact I17.out;rfl;rfl;rfl) | ((with_reducible refine load_m s12 Tryz.underlying47 ?_ ?_ ?_ ?_ ?_);exact I12.out;rfl;rfl;rfl) | ((with_reducible refine load_m s3 Tryz.underlying51 ?_ ?_ ?_ ?_ ?_);exact I3.out;rfl;rfl;rfl) | ((with_reducible refine load_m s5 Tryz.underlying45 ?_ ?_ ?_ ?_ ?_);exact I5.out;rfl;rfl;rfl))
  refine(CC.out _ (HS.out.keep K9).rd).mono ?_
  rintro e2 w2 ⟨A',c',rfl,o2,q2⟩
  have l2:=livS_keep q2 l9
  have hz2:=q2.size
  have hz09:=kW0.size
  have HG2:Hid (∀ g,A'=some ⟨g,0,none⟩→g<w2.heap.size):=Lib.hid fun g e=>by
   subst e
   exact(World.ownsRow.lt o2 g rfl).2
  have kg:Kp w2 (w2.alloc (.cells #[.int .i64 T,.int .i64 Z,(.slice A' N c')] 51)):=(Kp.refl w2).alloc _
  have zW3:(w2.alloc (.cells #[.int .i64 T,.int .i64 Z,(.slice A' N c')] 51)).heap.size=w2.heap.size+1:=by simp
  have O3:=Lib.hid (o2.keep kg)
  have m3:LivS (w2.alloc (.cells #[.int .i64 T,.int .i64 Z,(.slice A' N c')] 51)) w2.heap.size (.int .i64 T) (.int .i64 Z) (.slice A' N c'):=⟨by simp [go_sem],by simp [go_sem],by simp [go_sem]⟩
  have K93:=q2.trans kg
  have k03:=kW0.trans K93
  clear l2 o2 q2 kg s12 s3 s5 t17
  go_upto_region 5 with (fail)
  generalize w2.alloc (.cells #[.int .i64 T,.int .i64 Z,(.slice A' N c')] 51)=W3 at *
  obtain⟨s12,s3⟩:=H0.out W3 k03
  have c52:=range_at s3 2 _ rfl
  clear s12 s3
  go_wp2_with fail
  have HI0:Hid (OwnU W3 W9.heap.size (.slice A' N c') (lsU (fun z=>ofSide0 sd z && !supU l m lt lr ld W us H d ls z) (us.take 0)++us.drop 0)):=Lib.hid (by simpa [lsU] using O3.out)
  have HM0:=Lib.hid m3
  have HR9:=Lib.hid r9
  have HL9:=Lib.hid l9
  clear m3 O3 r9 l9 c52
  go_loopw [13,14,31] (fun _ _ i wx=>∃ q:Nat,q≤N∧i=.int .i64 q∧Hid (OwnU wx W9.heap.size (.slice A' N c') (lsU (fun z=>ofSide0 sd z && !supU l m lt lr ld W us H d ls z) (us.take q)++us.drop q))∧Hid (LivS wx w2.heap.size (.int .i64 T) (.int .i64 Z) (.slice A' N c'))∧Kp W9 wx) (fun _ _ i _=>N - (intOf i).toNat)
  case atStart=>exact⟨0,by omega,rfl,HI0,HM0,K93⟩
  case round =>
    obtain⟨q,hqn,rfl,HI,HM,kr⟩:=hrel
    by_cases hlt:q<N
    ·have hlt':(q:Int)<N:=by omega
     have KR:=K9.trans kr
     obtain⟨⟨zs,zk,za,zt⟩,hx⟩:∃ z,us[q]?=some z:=⟨us[q]'(by have:=HN.out;omega),List.getElem?_eq_getElem _⟩
     obtain⟨kk,e5,hti,hza,hcs⟩:=CPU.out _ (List.mem_of_getElem? hx)
     simp only at e5 hti hza hcs
     subst e5
     have CS:=Lib.hid hcs
     have HTI:=Lib.hid hti
     obtain⟨a0,a1,a2,a3⟩:=(HA.out q _ hx).keep KR
     simp only at a0 a1 a2 a3
     have HX:=Lib.hid hx
     have HLX:Hid ((lsU (fun z=>ofSide0 sd z && !supU l m lt lr ld W us H d ls z) (us.take q)++us.drop q)[q]?=some ⟨zs,(kk:Int),za,zt⟩):=Lib.hid (lsQ_at hx)
     have HNO:Hid ((fun z=>ofSide0 sd z && !supU l m lt lr ld W us H d ls z) ⟨zs,(kk:Int),za,zt⟩=false→(lsU (fun z=>ofSide0 sd z && !supU l m lt lr ld W us H d ls z) (us.take (q+1))++us.drop (q+1))=(lsU (fun z=>ofSide0 sd z && !supU l m lt lr ld W us H d ls z) (us.take q)++us.drop q)):=Lib.hid (fun h=>lsQ_no hx h)
     have HYES:Hid ((fun z=>ofSide0 sd z && !supU l m lt lr ld W us H d ls z) ⟨zs,(kk:Int),za,zt⟩=true→(lsU (fun z=>ofSide0 sd z && !supU l m lt lr ld W us H d ls z) (us.take (q+1))++us.drop (q+1))=(lsU (fun z=>ofSide0 sd z && !supU l m lt lr ld W us H d ls z) (us.take q)++us.drop q).set q (loU ⟨zs,(kk:Int),za,zt⟩ 1)):=Lib.hid (fun h=>lsQ_yes hx h)
     have kb:Kp wr (wr.alloc (.cells #[.int .i64 zs,.int .i64 (kk:Int),.int .i64 za,.int .i64 zt] 152)):=(Kp.refl wr).alloc _
     have rU:=range_fresh wr [.int .i64 zs,.int .i64 (kk:Int),.int .i64 za,.int .i64 zt] 152
     have r9:=range_keep HR9.out (kr.trans kb)
     have HI1:=Lib.hid (HI.out.keep kb)
     have HM1:=Lib.hid (livS_keep kb HM.out)
     have kr1:=kr.trans kb
     have HGs:Hid (∀ g,A'=some ⟨g,0,none⟩→g<wr.heap.size):=Lib.hid fun g e=>by
      subst e
      exact(World.ownsRow.lt HI.out g rfl).2
     clear hcs hti HI HM hx kr KR
     go_upto_region 8 with (fail)
     clear a0 a1 a2 a3 kb
     generalize (wr.alloc (.cells #[.int .i64 zs,.int .i64 (kk:Int),.int .i64 za,.int .i64 zt] 152))=WB at *
     have c0:=range_at rU 0 _ rfl
     by_cases he:zs=sd
     ·subst he
      by_cases ha:za=-1
      ·subst ha
       go_wp2_with (first | ((with_reducible refine load_m rU Tryz.underlying152 ?_ ?_ ?_ ?_ ?_);exact I4.out;rfl;rfl;rfl))
       refine(onMap_no zs (kk:Int) zt _).mono ?_
       rintro e4 w4 ⟨rfl,q4⟩
       have HI4:=Lib.hid (HI1.out.keep q4)
       have HM4:=Lib.hid (livS_keep q4 HM1.out)
       clear rU r9 c0 HI1 HM1
       go_wp2_with fail
       go_roundw
       case rel=>exact⟨q+1,by omega,by go_num,by rw [HNO.out (by simp [ofSide0])];exact HI4,HM4,kr1.trans q4⟩
       case measure=>simp [intOf];omega
      ·have h0a:0≤za:=by omega
       go_wp2_with (first | ((with_reducible refine load_m rU Tryz.underlying152 ?_ ?_ ?_ ?_ ?_);exact I4.out;rfl;rfl;rfl))
       refine(onMap_yes zs (kk:Int) za zt _ ha).mono ?_
       rintro e4 w4 ⟨rfl,q4⟩
       have HI4:=Lib.hid (HI1.out.keep q4)
       have HM4:=Lib.hid (livS_keep q4 HM1.out)
       have rU4:=range_keep rU q4
       have r94:=range_keep r9 q4
       have k4:=kr1.trans q4
       clear rU r9 c0 HI1 HM1 q4 kr1
       have rU:=rU4
       have r9:=r94
       go_wp2_with (first | ((with_reducible refine load_m r9 Tryz.underlying147 ?_ ?_ ?_ ?_ ?_);exact I17.out;rfl;rfl;rfl) | ((with_reducible refine load_m rU Tryz.underlying152 ?_ ?_ ?_ ?_ ?_);exact I4.out;rfl;rfl;rfl))
       refine(CS.out _ (HT.out.keep (K9.trans k4)) (HB.out.keep (K9.trans k4)) (HS.out.keep (K9.trans k4)) (by rw [HSN.out];exact HQ.out.keep (K9.trans k4)) (by trivial)).mono ?_
       rintro e5 w5 ⟨rfl,q5⟩
       have HI5:=Lib.hid (HI4.out.keep q5)
       have HM5:=Lib.hid (livS_keep q5 HM4.out)
       have rU5:=range_keep rU4 q5
       have k5:=k4.trans q5
       clear rU r9 rU4 r94 HI4 HM4 q5 k4
       cases hsu:supU l m lt lr ld W us H d ls ⟨zs,(kk:Int),za,zt⟩
       ·have HE:=HYES.out (by simp [ofSide0,h0a,hsu])
        obtain⟨G,rfl,hG,hLN⟩:=HI5.out.block_at (by have:=(List.getElem?_eq_some_iff.1 HLX.out).1;omega)
        have HLN:=Lib.hid hLN
        clear hLN
        obtain⟨qs,qk,qa,qt,hy⟩:∃ s k a t,loU ⟨zs,(kk:Int),za,zt⟩ 1=⟨s,k,a,t⟩:=⟨_,_,_,_,rfl⟩
        have CX:Hid (∀ w,Calls Tryz.prog 110 #[ux zs (kk:Int) za zt,.int .i64 1] w fun e w'=>e=.returned (ux qs qk qa qt)∧Kp w w'):=Lib.hid fun w=>by
         have h9:=HTI.out.1
         unfold isI64 at h9
         have h0:=HTI.out.2
         by_cases hz:zt - 1≤0
         ·rw [loU,if_pos (by simp only;exact hz)] at hy
          simp only [Uni.mk.injEq] at hy
          obtain⟨rfl,rfl,rfl,rfl⟩:=hy
          exact losing_lo zs kk za zt 1 w (by omega) hz
         ·rw [loU,if_neg (by simp only;exact hz)] at hy
          simp only [Uni.mk.injEq] at hy
          obtain⟨rfl,rfl,rfl,rfl⟩:=hy
          exact losing_hi zs kk za zt 1 w (by omega) (by omega)
        rw [hy] at HE
        have HE2:=Lib.hid HE
        have hne1:G ≠ w2.heap.size:=by have:=HG2.out G rfl;omega
        have hne2:G ≠ wr.heap.size:=by have:=HGs.out G rfl;omega
        clear HE hy hsu
        go_upto_region 9 with (fail)
        have S5:w5.cell? ⟨w2.heap.size,2,none⟩=some (.slice (some ⟨G,0,none⟩) N c')∧cb4 w5 (wr.heap.size) (.int .i64 zs) (.int .i64 (kk:Int)) (.int .i64 za) (.int .i64 zt) (Kp W9 w5):=⟨HM5.out.2.2.1,range_at rU5 0 _ rfl,range_at rU5 1 _ rfl,range_at rU5 2 _ rfl,range_at rU5 3 _ rfl,k5⟩
        have kd:=(Kp.refl w5).drew
        have S5d:w5.drew.cell? ⟨w2.heap.size,2,none⟩=some (.slice (some ⟨G,0,none⟩) N c')∧cb4 (w5.drew) (wr.heap.size) (.int .i64 zs) (.int .i64 (kk:Int)) (.int .i64 za) (.int .i64 zt) (Kp W9 w5.drew):=⟨kd.cell S5.1,kd.cell S5.2.1,kd.cell S5.2.2.1,kd.cell S5.2.2.2.1,kd.cell S5.2.2.2.2.1,S5.2.2.2.2.2.trans kd⟩
        have HI5d:=Lib.hid (HI5.out.keep kd)
        have HM5d:=Lib.hid (livS_keep kd HM5.out)
        clear S5 kd HI5 HM5 rU5 k5
        refine wp_region_held_drew (S:=(fun w'=>w'.cell? ⟨w2.heap.size,2,none⟩=some (.slice (some ⟨G,0,none⟩) N c')∧cb4 w' (wr.heap.size) (.int .i64 zs) (.int .i64 (kk:Int)) (.int .i64 za) (.int .i64 zt) (Kp W9 w'))) (by kernel_rfl) ?_ (fun hHeld=>?_)
        ·assumption
        generalize w5.drew=V at *
        refine tk 0 ⟨some 50,_,_,_,_,_⟩ ?_ rfl (by kernel_rfl) (fun _ _ _ h=>h) (by rfl) ?_ (by assumption) ?_
        rotate_left
        ·intro w hSw;(try dsimp only at hSw);go_simp;(all_goals with_reducible rfl)
        try simp only [Act.put,sA,sB,sC]
        refine tk 1 ⟨some 51,_,_,_,_,_⟩ ?_ rfl (by kernel_rfl) (fun _ _ _ h=>h) (by rfl) ?_ (by assumption) ?_
        rotate_left
        ·intro w hSw;(try dsimp only at hSw);go_simp;(all_goals with_reducible rfl)
        try simp only [Act.put,sA,sB,sC]
        refine tk 2 ⟨some 52,_,_,_,_,_⟩ ?_ rfl (by kernel_rfl) (fun _ _ _ h=>h) (by rfl) ?_ (by assumption) ?_
        rotate_left
        ·intro w hSw;(try dsimp only at hSw);go_simp;(all_goals with_reducible rfl)
        try simp only [Act.put,sA,sB,sC]
        refine tk 3 ⟨some 53,_,_,_,_,_⟩ ?_ rfl (by kernel_rfl) (fun _ _ _ h=>h) (by rfl) ?_ (by assumption) ?_
        rotate_left
        ·intro w hSw;(try dsimp only at hSw);go_simp;(all_goals with_reducible rfl)
        try simp only [Act.put,sA,sB,sC]
        refine wpAnyH_ready (rs:=[4]) (by kernel_rfl) (by simp) ?_
        refine(AllReadyH.cons (o:=⟨some 54,_,_,_,_,_⟩) rfl (fun K hK=>?_) AllReadyH.nil)
        go_simp
        refine(CX.out _).mono ?_
        rintro e7 w7 ⟨rfl,k7⟩
        have hS7:w7.cell? ⟨w2.heap.size,2,none⟩=some (.slice (some ⟨G,0,none⟩) N c')∧cb4 w7 (wr.heap.size) (.int .i64 zs) (.int .i64 (kk:Int)) (.int .i64 za) (.int .i64 zt) (Kp W9 w7):=⟨k7.cell hHeld.1,k7.cell hHeld.2.1,k7.cell hHeld.2.2.1,k7.cell hHeld.2.2.2.1,k7.cell hHeld.2.2.2.2.1,hHeld.2.2.2.2.2.trans k7⟩
        have O7:=Lib.hid (HI5d.out.keep k7)
        obtain⟨⟨m0,g0⟩,⟨m1,g1⟩,⟨m2,g2⟩⟩:=livS_keep k7 HM5d.out
        have K7:=hS7.2.2.2.2.2
        have r7:=O7.out.row HLN.out.symm
        have f0:=World.ownsRow.frozenAt r7 (q*4)
        have f1:=World.ownsRow.frozenAt r7 (q*4+1)
        have f2:=World.ownsRow.frozenAt r7 (q*4+2)
        have f3:=World.ownsRow.frozenAt r7 (q*4+3)
        obtain⟨b0,b1,b2,b3⟩:=O7.out.cells HLX.out
        simp only at b0 b1 b2 b3
        have o8:=O7.out.unit (s:=qs) (k:=qk) (a:=qa) (t:=qt) HLX.out
        have O8:=Lib.hid o8
        clear k7 r7 o8 HI5d HM5d
        go_wp2_with fail
        refine hK.out _ _ ?_ (fun hHeld=>?_)
        ·(try dsimp only);(assumption)
        clear hK K
        try simp only [Act.put,sA,sB,sC]
        refine tk 5 ⟨some 55,_,_,_,_,_⟩ ?_ rfl (by kernel_rfl) (fun _ _ _ h=>h) (by rfl) ?_ (by assumption) ?_
        rotate_left
        ·intro w hSw;(try dsimp only at hSw);go_simp;(all_goals with_reducible rfl)
        try simp only [Act.put,sA,sB,sC]
        refine wpAnyH_ready (rs:=[6]) (by kernel_rfl) (by simp) ?_
        refine(AllReadyH.cons (o:=⟨none,_,_,_,_,_⟩) rfl (fun K hK=>?_) AllReadyH.nil)
        go_simp
        go_wp2_with fail
        refine hK.out _ _ ?_ (fun hHeld=>?_)
        ·(try dsimp only);(first | assumption | exact⟨by simp [go_sem, *],by simp [go_sem, *],by simp [go_sem, *],by simp [go_sem, *],by simp [go_sem, *],(((K7.setCell (by omega) _).setCell (by omega) _).setCell (by omega) _).setCell (by omega) _⟩)
        clear hK K
        try simp only [Act.put,sA,sB,sC]
        refine wpAnyH_done (by kernel_rfl) ?_ _
        go_wp2_with fail
        go_roundw
        case rel=>exact⟨q+1,by omega,by go_num,by rw [HE2.out];exact O8,Lib.hid ⟨⟨by simp [go_sem, *],by simp [go_sem, *]⟩,⟨by simp [go_sem, *],by simp [go_sem, *]⟩,⟨by simp [go_sem, *],by simp [go_sem, *]⟩⟩,(((K7.setCell (by omega) _).setCell (by omega) _).setCell (by omega) _).setCell (by omega) _⟩
        case measure=>simp [intOf];omega
       ·have HE:=HNO.out (by simp [ofSide0,hsu])
        clear hsu
        go_wp2_with fail
        go_roundw
        case rel=>exact⟨q+1,by omega,by go_num,by rw [HE];exact HI5,HM5,k5⟩
        case measure=>simp [intOf];omega
     ·have he1:(zs == sd)=false:=by simpa using he
      have HE:=HNO.out (by simp [ofSide0,he])
      clear rU r9 he
      go_wp2_with fail
      go_roundw
      case rel=>exact⟨q+1,by omega,by go_num,by rw [HE];exact HI1,HM1,kr1⟩
      case measure=>simp [intOf];omega
    ·obtain rfl:N=q:=by omega
     have HI9:Hid (OwnU wr W9.heap.size (.slice A' N c') (lsU (fun z=>ofSide0 sd z && !supU l m lt lr ld W us H d ls z) us)):=Lib.hid (by
      have h:=HI.out
      rw [← HN.out,lsQ_end] at h
      rw [← HN.out]
      exact h)
     have l9:=livS_keep kr HL9.out
     have s9:=livS_range HM.out
     clear HI HM
     go_wp2_with (first | ((with_reducible refine load_m s9 Tryz.underlying51 ?_ ?_ ?_ ?_ ?_);exact I3.out;rfl;rfl;rfl))
     refine bodyPost_ret (v:=.tuple #[sv T Z (.slice A' N c'),.bool true]) (by simp [results,Tryz.results52,go_sem, *]) rfl ⟨_,rfl,?_,?_⟩
     ·have n0:=HI9.out.not (g:=w.heap.size+1+1) (by omega)
      rw [if_pos rfl]
      exact(((HI9.out.far n0 _).far n0 _).far n0 _).base (by omega)
     ·exact(((K9.trans kr).setCell (by simp <;> omega) _).setCell (by simp <;> omega) _).setCell (by simp <;> omega) _
theorem loseUnsuppliedP_any (At Ak:Option Addr) (nt nk ct ck:Nat) (l:List Ter) (m:List Knd) (a b c d e W H:Int) (x r y:Value) (lt lr ld:List Int) (T Z:Int) (g off N cp:Nat) (us:List Uni) (sd:Int) (Aq:Option Addr) (nq cq:Nat) (ls:List Int) (w:World) (hs:Spans w) (ht:Tab w) (hu:SpU w) (hB:BrdAt w At Ak nt nk l m x r y lt lr ld) (hS:StaAt w (.slice (some ⟨g,off,none⟩) N cp) us) (hN:us.length=N) (hq:RdI w (.slice Aq nq cq) ls) (hql:ls.length≤1048576) :
  Calls Tryz.prog 52 #[bv (.slice At nt ct) (.slice Ak nk ck) a b c d e W H x r y,sv T Z (.slice (some ⟨g,off,none⟩) N cp),.int .i64 sd,.slice Aq nq cq] w (StPost (((brdOk ⟨l,m,a,b,c,d,e⟩ W H lt lr ld && staOk ⟨l,m,a,b,c,d,e⟩ W H lt T Z us) && spB 0 1 sd) && srcOk W H ls) T Z (lsU (fun z=>ofSide0 sd z && !supU l m lt lr ld W us H d ls z) us) w):=by
 obtain⟨Ax,cx,rfl,_⟩:=hB.L.rt
 obtain⟨Ar,cr,rfl,_⟩:=hB.L.rr
 obtain⟨Ay,cy,rfl,_⟩:=hB.L.rd
 exact loseUnsuppliedP_s At Ak nt nk ct ck l m a b c d e W H Ax Ar Ay lt.length cx lr.length cr ld.length cy lt lr ld T Z g off N cp us sd Aq nq cq ls w hs ht hu hB hS hN hq hql
end Go.Proofs.YtacgknllagdkoaaGreatDoor
