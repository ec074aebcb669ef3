import Derived.Deep.Cut
import Derived.Deep.RegionHeld3
import Derived.Test.YtgefinicjphmpaaGreatDoorSuO
namespace Go.Proofs.YtgefinicjphmpaaGreatDoor
open Go.RowKit
set_option maxRecDepth 100000 in
set_option maxHeartbeats 4000000 in
theorem specInSupply_any (At Ak:Option Addr) (nt nk ct ck:Nat) (l:List Ter) (m:List Knd) (a b c d e W H:Int) (x r y:Value) (lt lr ld:List Int) (T Z:Int) (u:Value) (us:List Uni) (un:Int) (Aq:Option Addr) (nq cq:Nat) (ls:List Int) (w:World) (hB:BrdAt w At Ak nt nk l m x r y lt lr ld) (hS:StaAt w u us) (hq:RdI w (.slice Aq nq cq) ls) (hql:ls.length ≤ 1048576) :
    Calls Tryz.prog 28 #[bv (.slice At nt ct) (.slice Ak nk ck) a b c d e W H x r y,sv T Z u,.int .i64 un,.slice Aq nq cq] w fun e' w'=>e'=.returned (.tuple #[.bool ((((brdOk ⟨l,m,a,b,c,d,e⟩ W H lt lr ld && staOk ⟨l,m,a,b,c,d,e⟩ W H lt T Z us) && inB un us.length) && srcOk W H ls) && supU l m lt lr ld W us H d ls (unN us un)),.bool (((brdOk ⟨l,m,a,b,c,d,e⟩ W H lt lr ld && staOk ⟨l,m,a,b,c,d,e⟩ W H lt T Z us) && inB un us.length) && srcOk W H ls)])∧Kp w w':=by
  have hnq:ls.length=nq:=by
    obtain ⟨A',c',e1,_⟩:=hq
    simp only [Value.slice.injEq] at e1
    exact e1.2.1.symm
  have CJ:=Lib.hid (fun (w:World) hB hS hq=>jInput_any At Ak nt nk ct ck l m a b c d e W H x r y lt lr ld T Z u us Aq nq cq ls un w hB hS hq hnq (by omega))
  have HB:=Lib.hid hB
  have HS:=Lib.hid hS
  have HQ:=Lib.hid hq
  have I12:Hid ((Tryz.prog.info? 44).map (·.size)=some 12):=Lib.hid (by kernel_rfl)
  have I3:Hid ((Tryz.prog.info? 48).map (·.size)=some 3):=Lib.hid (by kernel_rfl)
  have I5:Hid ((Tryz.prog.info? 42).map (·.size)=some 5):=Lib.hid (by kernel_rfl)
  cases hg:((brdOk ⟨l,m,a,b,c,d,e⟩ W H lt lr ld && staOk ⟨l,m,a,b,c,d,e⟩ W H lt T Z us) && inB un us.length) && srcOk W H ls
  · rw [hg] at CJ
    rw [Bool.false_and]
    have KA:Kp w ((w.alloc (.cells #[.slice At nt ct,.slice Ak nk ck,.int .i64 a,.int .i64 b,.int .i64 c,.int .i64 d,.int .i64 e,.int .i64 W,.int .i64 H,x,r,y] 44)).alloc (.cells #[.int .i64 T,.int .i64 Z,u] 48)):=((Kp.refl w).alloc _).alloc _
    have H0:Hid (∀ w',Kp ((w.alloc (.cells #[.slice At nt ct,.slice Ak nk ck,.int .i64 a,.int .i64 b,.int .i64 c,.int .i64 d,.int .i64 e,.int .i64 W,.int .i64 H,x,r,y] 44)).alloc (.cells #[.int .i64 T,.int .i64 Z,u] 48)) w'→World.rangeAt w' w.heap.size 0 [.slice At nt ct,.slice Ak nk ck,.int .i64 a,.int .i64 b,.int .i64 c,.int .i64 d,.int .i64 e,.int .i64 W,.int .i64 H,x,r,y]∧World.rangeAt w' (w.heap.size + 1) 0 [.int .i64 T,.int .i64 Z,u]):=Lib.hid fun w' k=>by
      have r3:=range_fresh (w.alloc (.cells #[.slice At nt ct,.slice Ak nk ck,.int .i64 a,.int .i64 b,.int .i64 c,.int .i64 d,.int .i64 e,.int .i64 W,.int .i64 H,x,r,y] 44)) [.int .i64 T,.int .i64 Z,u] 48
      rw [show (w.alloc (.cells #[.slice At nt ct,.slice Ak nk ck,.int .i64 a,.int .i64 b,.int .i64 c,.int .i64 d,.int .i64 e,.int .i64 W,.int .i64 H,x,r,y] 44)).heap.size=w.heap.size + 1 by simp] at r3
      exact ⟨range_keep (range_fresh w [.slice At nt ct,.slice Ak nk ck,.int .i64 a,.int .i64 b,.int .i64 c,.int .i64 d,.int .i64 e,.int .i64 W,.int .i64 H,x,r,y] 44) (((Kp.refl _).alloc _).trans k),range_keep r3 k⟩
    clear hg hB hS hq hql hnq
    go_enter Tryz.func28,Tryz.ntmps28
    go_upto_region 1 with (fail)
    generalize ((w.alloc (.cells #[.slice At nt ct,.slice Ak nk ck,.int .i64 a,.int .i64 b,.int .i64 c,.int .i64 d,.int .i64 e,.int .i64 W,.int .i64 H,x,r,y] 44)).alloc (.cells #[.int .i64 T,.int .i64 Z,u] 48))=W0 at *
    obtain ⟨s12,s3⟩:=H0.out W0 (Kp.refl _)
    have s5:=range_part s12 7 5
    go_wp2_with (first | ((with_reducible refine load_m s12 Tryz.underlying44 ?_ ?_ ?_ ?_ ?_);exact I12.out;rfl;rfl;rfl) | ((with_reducible refine load_m s3 Tryz.underlying48 ?_ ?_ ?_ ?_ ?_);exact I3.out;rfl;rfl;rfl) | ((with_reducible refine load_m s5 Tryz.underlying42 ?_ ?_ ?_ ?_ ?_);exact I5.out;rfl;rfl;rfl))
    refine (CJ.out _ (HB.out.keep KA) (HS.out.keep KA) (HQ.out.keep KA)).mono ?_
    rintro e1 w1 ⟨rfl,q1⟩
    clear s12 s3 s5
    go_wp2_with fail
    go_ret2
    exact ⟨rfl,(KA.trans q1)⟩
  · rw [hg] at CJ
    rw [Bool.true_and]
    simp only [Bool.and_eq_true] at hg
    obtain ⟨⟨⟨hok,hst⟩,hun⟩,hsr⟩:=hg
    obtain ⟨p1,p2,p3,p4⟩:=mapOk_side (brdOk_map hok)
    have hlen:=mapOk_len (brdOk_map hok)
    obtain ⟨zs,k,za,zt,hz,hzs,hkm,hza⟩:=uni_known hst hlen hun
    obtain ⟨k0,rfl,hk0,hk1⟩:=unN_of (us:=us) (n:=un) hun
    rw [hz] at hk1 ⊢
    obtain ⟨hsn,hsb,hsd⟩:=srcOk_nat hsr
    have hsb':=hsb lt.length hlen
    have CI:=Lib.hid (fun (w:World) hB hS hq=>jIn_any At Ak nt nk ct ck l m a b c d e W H x r y lt lr ld T Z u us k0 k zs za zt ls w hB hS hok hst hk1 hkm hzs hza (.slice Aq nq cq) hq hsr)
    generalize supU l m lt lr ld W us H d ls ⟨zs,(k:Int),za,zt⟩=R at CI ⊢
    have KA:Kp w ((w.alloc (.cells #[.slice At nt ct,.slice Ak nk ck,.int .i64 a,.int .i64 b,.int .i64 c,.int .i64 d,.int .i64 e,.int .i64 W,.int .i64 H,x,r,y] 44)).alloc (.cells #[.int .i64 T,.int .i64 Z,u] 48)):=((Kp.refl w).alloc _).alloc _
    have H0:Hid (∀ w',Kp ((w.alloc (.cells #[.slice At nt ct,.slice Ak nk ck,.int .i64 a,.int .i64 b,.int .i64 c,.int .i64 d,.int .i64 e,.int .i64 W,.int .i64 H,x,r,y] 44)).alloc (.cells #[.int .i64 T,.int .i64 Z,u] 48)) w'→World.rangeAt w' w.heap.size 0 [.slice At nt ct,.slice Ak nk ck,.int .i64 a,.int .i64 b,.int .i64 c,.int .i64 d,.int .i64 e,.int .i64 W,.int .i64 H,x,r,y]∧World.rangeAt w' (w.heap.size + 1) 0 [.int .i64 T,.int .i64 Z,u]):=Lib.hid fun w' k=>by
      have r3:=range_fresh (w.alloc (.cells #[.slice At nt ct,.slice Ak nk ck,.int .i64 a,.int .i64 b,.int .i64 c,.int .i64 d,.int .i64 e,.int .i64 W,.int .i64 H,x,r,y] 44)) [.int .i64 T,.int .i64 Z,u] 48
      rw [show (w.alloc (.cells #[.slice At nt ct,.slice Ak nk ck,.int .i64 a,.int .i64 b,.int .i64 c,.int .i64 d,.int .i64 e,.int .i64 W,.int .i64 H,x,r,y] 44)).heap.size=w.heap.size + 1 by simp] at r3
      exact ⟨range_keep (range_fresh w [.slice At nt ct,.slice Ak nk ck,.int .i64 a,.int .i64 b,.int .i64 c,.int .i64 d,.int .i64 e,.int .i64 W,.int .i64 H,x,r,y] 44) (((Kp.refl _).alloc _).trans k),range_keep r3 k⟩
    clear hB hS hq hql hnq hok hst hun hsr hk1 hz hzs hkm hza hsn hsb hsb' hsd hlen
    go_enter Tryz.func28,Tryz.ntmps28
    go_upto_region 1 with (fail)
    generalize ((w.alloc (.cells #[.slice At nt ct,.slice Ak nk ck,.int .i64 a,.int .i64 b,.int .i64 c,.int .i64 d,.int .i64 e,.int .i64 W,.int .i64 H,x,r,y] 44)).alloc (.cells #[.int .i64 T,.int .i64 Z,u] 48))=W0 at *
    obtain ⟨s12,s3⟩:=H0.out W0 (Kp.refl _)
    have s5:=range_part s12 7 5
    go_wp2_with (first | ((with_reducible refine load_m s12 Tryz.underlying44 ?_ ?_ ?_ ?_ ?_);exact I12.out;rfl;rfl;rfl) | ((with_reducible refine load_m s3 Tryz.underlying48 ?_ ?_ ?_ ?_ ?_);exact I3.out;rfl;rfl;rfl) | ((with_reducible refine load_m s5 Tryz.underlying42 ?_ ?_ ?_ ?_ ?_);exact I5.out;rfl;rfl;rfl))
    refine (CJ.out _ (HB.out.keep KA) (HS.out.keep KA) (HQ.out.keep KA)).mono ?_
    rintro e1 w1 ⟨rfl,q1⟩
    clear s12 s3 s5
    obtain ⟨s12,s3⟩:=H0.out w1 q1
    have s5:=range_part s12 7 5
    go_wp2_with (first | ((with_reducible refine load_m s12 Tryz.underlying44 ?_ ?_ ?_ ?_ ?_);exact I12.out;rfl;rfl;rfl) | ((with_reducible refine load_m s3 Tryz.underlying48 ?_ ?_ ?_ ?_ ?_);exact I3.out;rfl;rfl;rfl) | ((with_reducible refine load_m s5 Tryz.underlying42 ?_ ?_ ?_ ?_ ?_);exact I5.out;rfl;rfl;rfl))
    refine (CI.out _ (HB.out.keep (KA.trans q1)) (HS.out.keep (KA.trans q1)) (HQ.out.keep (KA.trans q1))).mono ?_
    rintro e2 w2 ⟨rfl,q2⟩
    go_wp2_with fail
    go_ret2
    exact ⟨rfl,(KA.trans q1).trans q2⟩
set_option maxRecDepth 100000 in
set_option maxHeartbeats 4000000 in
theorem specSupplyMargin_any (At Ak:Option Addr) (nt nk ct ck:Nat) (l:List Ter) (m:List Knd) (a b c d e W H:Int) (x r y:Value) (lt lr ld:List Int) (T Z:Int) (u:Value) (us:List Uni) (un:Int) (Aq:Option Addr) (nq cq:Nat) (ls:List Int) (w:World) (hB:BrdAt w At Ak nt nk l m x r y lt lr ld) (hS:StaAt w u us) (hq:RdI w (.slice Aq nq cq) ls) (hql:ls.length ≤ 1048576) :
    Calls Tryz.prog 41 #[bv (.slice At nt ct) (.slice Ak nk ck) a b c d e W H x r y,sv T Z u,.int .i64 un,.slice Aq nq cq] w fun e' w'=>e'=.returned (ib ((((brdOk ⟨l,m,a,b,c,d,e⟩ W H lt lr ld && staOk ⟨l,m,a,b,c,d,e⟩ W H lt T Z us) && inB un us.length) && srcOk W H ls) && supU l m lt lr ld W us H d ls (unN us un)) (d - (((wayU l m lt lr ld W us H ls (unN us un)).length:Int) - 1)))∧Kp w w':=by
  have hnq:ls.length=nq:=by
    obtain ⟨A',c',e1,_⟩:=hq
    simp only [Value.slice.injEq] at e1
    exact e1.2.1.symm
  have CJ:=Lib.hid (fun (w:World) hB hS hq=>jInput_any At Ak nt nk ct ck l m a b c d e W H x r y lt lr ld T Z u us Aq nq cq ls un w hB hS hq hnq (by omega))
  have HB:=Lib.hid hB
  have HS:=Lib.hid hS
  have HQ:=Lib.hid hq
  have I12:Hid ((Tryz.prog.info? 44).map (·.size)=some 12):=Lib.hid (by kernel_rfl)
  have I3:Hid ((Tryz.prog.info? 48).map (·.size)=some 3):=Lib.hid (by kernel_rfl)
  have I5:Hid ((Tryz.prog.info? 42).map (·.size)=some 5):=Lib.hid (by kernel_rfl)
  cases hg:((brdOk ⟨l,m,a,b,c,d,e⟩ W H lt lr ld && staOk ⟨l,m,a,b,c,d,e⟩ W H lt T Z us) && inB un us.length) && srcOk W H ls
  · rw [hg] at CJ
    rw [Bool.false_and]
    have KA:Kp w ((w.alloc (.cells #[.slice At nt ct,.slice Ak nk ck,.int .i64 a,.int .i64 b,.int .i64 c,.int .i64 d,.int .i64 e,.int .i64 W,.int .i64 H,x,r,y] 44)).alloc (.cells #[.int .i64 T,.int .i64 Z,u] 48)):=((Kp.refl w).alloc _).alloc _
    have H0:Hid (∀ w',Kp ((w.alloc (.cells #[.slice At nt ct,.slice Ak nk ck,.int .i64 a,.int .i64 b,.int .i64 c,.int .i64 d,.int .i64 e,.int .i64 W,.int .i64 H,x,r,y] 44)).alloc (.cells #[.int .i64 T,.int .i64 Z,u] 48)) w'→World.rangeAt w' w.heap.size 0 [.slice At nt ct,.slice Ak nk ck,.int .i64 a,.int .i64 b,.int .i64 c,.int .i64 d,.int .i64 e,.int .i64 W,.int .i64 H,x,r,y]∧World.rangeAt w' (w.heap.size + 1) 0 [.int .i64 T,.int .i64 Z,u]):=Lib.hid fun w' k=>by
      have r3:=range_fresh (w.alloc (.cells #[.slice At nt ct,.slice Ak nk ck,.int .i64 a,.int .i64 b,.int .i64 c,.int .i64 d,.int .i64 e,.int .i64 W,.int .i64 H,x,r,y] 44)) [.int .i64 T,.int .i64 Z,u] 48
      rw [show (w.alloc (.cells #[.slice At nt ct,.slice Ak nk ck,.int .i64 a,.int .i64 b,.int .i64 c,.int .i64 d,.int .i64 e,.int .i64 W,.int .i64 H,x,r,y] 44)).heap.size=w.heap.size + 1 by simp] at r3
      exact ⟨range_keep (range_fresh w [.slice At nt ct,.slice Ak nk ck,.int .i64 a,.int .i64 b,.int .i64 c,.int .i64 d,.int .i64 e,.int .i64 W,.int .i64 H,x,r,y] 44) (((Kp.refl _).alloc _).trans k),range_keep r3 k⟩
    clear hg hB hS hq hql hnq
    go_enter Tryz.func41,Tryz.ntmps41
    go_upto_region 1 with (fail)
    generalize ((w.alloc (.cells #[.slice At nt ct,.slice Ak nk ck,.int .i64 a,.int .i64 b,.int .i64 c,.int .i64 d,.int .i64 e,.int .i64 W,.int .i64 H,x,r,y] 44)).alloc (.cells #[.int .i64 T,.int .i64 Z,u] 48))=W0 at *
    obtain ⟨s12,s3⟩:=H0.out W0 (Kp.refl _)
    have s5:=range_part s12 7 5
    go_wp2_with (first | ((with_reducible refine load_m s12 Tryz.underlying44 ?_ ?_ ?_ ?_ ?_);exact I12.out;rfl;rfl;rfl) | ((with_reducible refine load_m s3 Tryz.underlying48 ?_ ?_ ?_ ?_ ?_);exact I3.out;rfl;rfl;rfl) | ((with_reducible refine load_m s5 Tryz.underlying42 ?_ ?_ ?_ ?_ ?_);exact I5.out;rfl;rfl;rfl))
    refine (CJ.out _ (HB.out.keep KA) (HS.out.keep KA) (HQ.out.keep KA)).mono ?_
    rintro e1 w1 ⟨rfl,q1⟩
    clear s12 s3 s5
    go_wp2_with fail
    go_ret2
    exact ⟨rfl,(KA.trans q1)⟩
  · rw [hg] at CJ
    rw [Bool.true_and]
    simp only [Bool.and_eq_true] at hg
    obtain ⟨⟨⟨hok,hst⟩,hun⟩,hsr⟩:=hg
    obtain ⟨p1,p2,p3,p4⟩:=mapOk_side (brdOk_map hok)
    have hlen:=mapOk_len (brdOk_map hok)
    obtain ⟨zs,k,za,zt,hz,hzs,hkm,hza⟩:=uni_known hst hlen hun
    obtain ⟨k0,rfl,hk0,hk1⟩:=unN_of (us:=us) (n:=un) hun
    rw [hz] at hk1 ⊢
    obtain ⟨hsn,hsb,hsd⟩:=srcOk_nat hsr
    have hsb':=hsb lt.length hlen
    have CI:=Lib.hid (fun (w:World) hB hS hq=>jIn_any At Ak nt nk ct ck l m a b c d e W H x r y lt lr ld T Z u us k0 k zs za zt ls w hB hS hok hst hk1 hkm hzs hza (.slice Aq nq cq) hq hsr)
    have CU:=Lib.hid (fun (w:World) hB hS hq=>jUnit_any At Ak nt nk ct ck l m a b c d e W H x r y lt lr ld T Z u us k0 k zs za zt w hB hS hok hst hk1 hkm hzs (.slice Aq nq cq) (srcN ls) hq hsb' hsd)
    have HQ2:Hid (RdI w (.slice Aq nq cq) (ints (srcN ls))):=Lib.hid (by rw [hsn];exact hq)
    have hA:=area_bd p1 p2 p3 p4
    have hd:=rulOk_sup (brdOk_rul hok)
    have hwf:((wayU l m lt lr ld W us H ls ⟨zs,(k:Int),za,zt⟩).length:Int)=(farN (fun j=>pasB l m lt lr ld W us zs k j) W H (srcN ls) lt.length za.toNat:Int):=by
      have h:=way_far (ok:=(fun j=>pasB l m lt lr ld W us zs k j)) (src:=srcN ls) hlen hsb' za.toNat
      rw [← h]
      rfl
    have hfb:=farN_bd (ok:=(fun j=>pasB l m lt lr ld W us zs k j)) (src:=srcN ls) hlen hsb' za.toNat
    have hsu:supU l m lt lr ld W us H d ls ⟨zs,(k:Int),za,zt⟩=true→za ≠ -1:=fun h=>by
      unfold supU at h
      simp only [Bool.and_eq_true,decide_eq_true_iff] at h
      exact h.1
    rw [hwf]
    have HFA:Hid (za.toNat < lt.length→(farL (fun j=>pasB l m lt lr ld W us zs k j) W H (srcN ls) lt.length)[za.toNat]?=some ((farN (fun j=>pasB l m lt lr ld W us zs k j) W H (srcN ls) lt.length za.toNat:Int) - 1)):=Lib.hid fun h=>farL_at h
    have hFL:(farL (fun j=>pasB l m lt lr ld W us zs k j) W H (srcN ls) lt.length).length=lt.length:=by simp [farL]
    have hn1a:-1 ≤ (farN (fun j=>pasB l m lt lr ld W us zs k j) W H (srcN ls) lt.length za.toNat:Int) - 1∧(farN (fun j=>pasB l m lt lr ld W us zs k j) W H (srcN ls) lt.length za.toNat:Int) - 1 ≤ 100:=by omega
    generalize (farN (fun j=>pasB l m lt lr ld W us zs k j) W H (srcN ls) lt.length za.toNat:Int) - 1=n1 at *
    generalize supU l m lt lr ld W us H d ls ⟨zs,(k:Int),za,zt⟩=R at *
    clear hwf hfb
    obtain ⟨A,cp,rfl,hrow⟩:=hS.rd
    have hbN:=hS.b
    generalize hNU:us.length=NU at *
    have hkNU:k0 < NU:=by rw [← hNU];exact (List.getElem?_eq_some_iff.1 hk1).1
    obtain ⟨gu,ou,rfl,hc⟩:=hrow (by omega)
    have hcu:=hc k0 _ hk1
    have hk0':(k0:Int) < NU:=by omega
    have UC:Hid (∀ w',Kp w w'→w'.cell? ⟨gu,ou + k0 * 4,none⟩=some (.int .i64 zs)∧w'.cell? ⟨gu,ou + k0 * 4 + 1,none⟩=some (.int .i64 (k:Int))∧w'.cell? ⟨gu,ou + k0 * 4 + 2,none⟩=some (.int .i64 za)∧w'.cell? ⟨gu,ou + k0 * 4 + 3,none⟩=some (.int .i64 zt)):=Lib.hid fun w' k=>hcu.keep k
    have KA:Kp w ((w.alloc (.cells #[.slice At nt ct,.slice Ak nk ck,.int .i64 a,.int .i64 b,.int .i64 c,.int .i64 d,.int .i64 e,.int .i64 W,.int .i64 H,x,r,y] 44)).alloc (.cells #[.int .i64 T,.int .i64 Z,.slice (some ⟨gu,ou,none⟩) NU cp] 48)):=((Kp.refl w).alloc _).alloc _
    have H0:Hid (∀ w',Kp ((w.alloc (.cells #[.slice At nt ct,.slice Ak nk ck,.int .i64 a,.int .i64 b,.int .i64 c,.int .i64 d,.int .i64 e,.int .i64 W,.int .i64 H,x,r,y] 44)).alloc (.cells #[.int .i64 T,.int .i64 Z,.slice (some ⟨gu,ou,none⟩) NU cp] 48)) w'→World.rangeAt w' w.heap.size 0 [.slice At nt ct,.slice Ak nk ck,.int .i64 a,.int .i64 b,.int .i64 c,.int .i64 d,.int .i64 e,.int .i64 W,.int .i64 H,x,r,y]∧World.rangeAt w' (w.heap.size + 1) 0 [.int .i64 T,.int .i64 Z,.slice (some ⟨gu,ou,none⟩) NU cp]):=Lib.hid fun w' k=>by
      have r3:=range_fresh (w.alloc (.cells #[.slice At nt ct,.slice Ak nk ck,.int .i64 a,.int .i64 b,.int .i64 c,.int .i64 d,.int .i64 e,.int .i64 W,.int .i64 H,x,r,y] 44)) [.int .i64 T,.int .i64 Z,.slice (some ⟨gu,ou,none⟩) NU cp] 48
      rw [show (w.alloc (.cells #[.slice At nt ct,.slice Ak nk ck,.int .i64 a,.int .i64 b,.int .i64 c,.int .i64 d,.int .i64 e,.int .i64 W,.int .i64 H,x,r,y] 44)).heap.size=w.heap.size + 1 by simp] at r3
      exact ⟨range_keep (range_fresh w [.slice At nt ct,.slice Ak nk ck,.int .i64 a,.int .i64 b,.int .i64 c,.int .i64 d,.int .i64 e,.int .i64 W,.int .i64 H,x,r,y] 44) (((Kp.refl _).alloc _).trans k),range_keep r3 k⟩
    generalize farL (fun j=>pasB l m lt lr ld W us zs k j) W H (srcN ls) lt.length=FL at *
    generalize (fun j=>pasB l m lt lr ld W us zs k j)=F at *
    generalize lt.length=N at *
    clear hB hS hq hql hnq hok hst hun hsr hk1 hz hzs hkm hsn hsb hsb' hsd hlen hrow hc hcu hk0
    cases R
    · clear hsu CU HFA
      go_enter Tryz.func41,Tryz.ntmps41
      go_upto_region 1 with (fail)
      generalize ((w.alloc (.cells #[.slice At nt ct,.slice Ak nk ck,.int .i64 a,.int .i64 b,.int .i64 c,.int .i64 d,.int .i64 e,.int .i64 W,.int .i64 H,x,r,y] 44)).alloc (.cells #[.int .i64 T,.int .i64 Z,.slice (some ⟨gu,ou,none⟩) NU cp] 48))=W0 at *
      obtain ⟨s12,s3⟩:=H0.out W0 (Kp.refl _)
      have s5:=range_part s12 7 5
      go_wp2_with (first | ((with_reducible refine load_m s12 Tryz.underlying44 ?_ ?_ ?_ ?_ ?_);exact I12.out;rfl;rfl;rfl) | ((with_reducible refine load_m s3 Tryz.underlying48 ?_ ?_ ?_ ?_ ?_);exact I3.out;rfl;rfl;rfl) | ((with_reducible refine load_m s5 Tryz.underlying42 ?_ ?_ ?_ ?_ ?_);exact I5.out;rfl;rfl;rfl))
      refine (CJ.out _ (HB.out.keep KA) (HS.out.keep KA) (HQ.out.keep KA)).mono ?_
      rintro e1 w1 ⟨rfl,q1⟩
      clear s12 s3 s5
      obtain ⟨s12,s3⟩:=H0.out w1 q1
      have s5:=range_part s12 7 5
      go_wp2_with (first | ((with_reducible refine load_m s12 Tryz.underlying44 ?_ ?_ ?_ ?_ ?_);exact I12.out;rfl;rfl;rfl) | ((with_reducible refine load_m s3 Tryz.underlying48 ?_ ?_ ?_ ?_ ?_);exact I3.out;rfl;rfl;rfl) | ((with_reducible refine load_m s5 Tryz.underlying42 ?_ ?_ ?_ ?_ ?_);exact I5.out;rfl;rfl;rfl))
      refine (CI.out _ (HB.out.keep (KA.trans q1)) (HS.out.keep (KA.trans q1)) (HQ.out.keep (KA.trans q1))).mono ?_
      rintro e2 w2 ⟨rfl,q2⟩
      go_wp2_with fail
      go_ret2
      exact ⟨rfl,(KA.trans q1).trans q2⟩
    · have hu:=hsu rfl
      have hz2:0 ≤ za∧za < N:=by omega
      obtain ⟨zn,rfl⟩:=Int.eq_ofNat_of_zero_le hz2.1
      have hzN:zn < N:=by omega
      have hzN':(zn:Int) < N:=by omega
      have hw:IntKind.i64.wrap (d - n1)=d - n1:=IntWalk.i64_in _ (by omega)
      rw [Int.toNat_natCast] at HFA
      have HFB:=Lib.hid (HFA.out hzN)
      clear hsu hu hza hz2 HFA
      go_enter Tryz.func41,Tryz.ntmps41
      go_upto_region 1 with (fail)
      generalize ((w.alloc (.cells #[.slice At nt ct,.slice Ak nk ck,.int .i64 a,.int .i64 b,.int .i64 c,.int .i64 d,.int .i64 e,.int .i64 W,.int .i64 H,x,r,y] 44)).alloc (.cells #[.int .i64 T,.int .i64 Z,.slice (some ⟨gu,ou,none⟩) NU cp] 48))=W0 at *
      obtain ⟨s12,s3⟩:=H0.out W0 (Kp.refl _)
      have s5:=range_part s12 7 5
      go_wp2_with (first | ((with_reducible refine load_m s12 Tryz.underlying44 ?_ ?_ ?_ ?_ ?_);exact I12.out;rfl;rfl;rfl) | ((with_reducible refine load_m s3 Tryz.underlying48 ?_ ?_ ?_ ?_ ?_);exact I3.out;rfl;rfl;rfl) | ((with_reducible refine load_m s5 Tryz.underlying42 ?_ ?_ ?_ ?_ ?_);exact I5.out;rfl;rfl;rfl))
      refine (CJ.out _ (HB.out.keep KA) (HS.out.keep KA) (HQ.out.keep KA)).mono ?_
      rintro e1 w1 ⟨rfl,q1⟩
      clear s12 s3 s5
      obtain ⟨s12,s3⟩:=H0.out w1 q1
      have s5:=range_part s12 7 5
      go_wp2_with (first | ((with_reducible refine load_m s12 Tryz.underlying44 ?_ ?_ ?_ ?_ ?_);exact I12.out;rfl;rfl;rfl) | ((with_reducible refine load_m s3 Tryz.underlying48 ?_ ?_ ?_ ?_ ?_);exact I3.out;rfl;rfl;rfl) | ((with_reducible refine load_m s5 Tryz.underlying42 ?_ ?_ ?_ ?_ ?_);exact I5.out;rfl;rfl;rfl))
      refine (CI.out _ (HB.out.keep (KA.trans q1)) (HS.out.keep (KA.trans q1)) (HQ.out.keep (KA.trans q1))).mono ?_
      rintro e2 w2 ⟨rfl,q2⟩
      clear s12 s3 s5
      obtain ⟨s12,s3⟩:=H0.out w2 (q1.trans q2)
      have s5:=range_part s12 7 5
      go_wp2_with (first | ((with_reducible refine load_m s12 Tryz.underlying44 ?_ ?_ ?_ ?_ ?_);exact I12.out;rfl;rfl;rfl) | ((with_reducible refine load_m s3 Tryz.underlying48 ?_ ?_ ?_ ?_ ?_);exact I3.out;rfl;rfl;rfl) | ((with_reducible refine load_m s5 Tryz.underlying42 ?_ ?_ ?_ ?_ ?_);exact I5.out;rfl;rfl;rfl))
      refine (CU.out _ (HB.out.keep ((KA.trans q1).trans q2)) (HS.out.keep ((KA.trans q1).trans q2)) (HQ2.out.keep ((KA.trans q1).trans q2))).mono ?_
      rintro e3 w3 ⟨vo,vf,rfl,_,of,q3⟩
      have k3:=(q1.trans q2).trans q3
      have K3:=KA.trans k3
      obtain ⟨gf,cf,hvf,hcf⟩:=of.at HFB.out
      rw [hFL] at hvf
      subst hvf
      have dR:=range_at (H0.out w3 k3).1 5 _ rfl
      have dU:=range_at (H0.out w3 k3).2 2 _ rfl
      obtain ⟨_,_,v2,_⟩:=UC.out w3 K3
      clear of s12 s3 s5
      go_upto_region 4 with (fail)
      have sg:w3.drew.cell? ⟨w.heap.size,5,none⟩=some (.int .i64 d)∧w3.drew.cell? ⟨w.heap.size + 1,2,none⟩=some (.slice (some ⟨gu,ou,none⟩) NU cp)∧w3.drew.cell? ⟨gu,ou + k0 * 4 + 2,none⟩=some (.int .i64 (zn:Int))∧w3.drew.cell? ⟨gf,zn,none⟩=some (.int .i64 n1)∧Kp w w3.drew:=⟨dR,dU,v2,hcf,K3.drew⟩
      clear dR dU v2 hcf
      refine wp_region_held_drew (S:=(fun w'=>w'.cell? ⟨w.heap.size,5,none⟩=some (.int .i64 d)∧w'.cell? ⟨w.heap.size + 1,2,none⟩=some (.slice (some ⟨gu,ou,none⟩) NU cp)∧w'.cell? ⟨gu,ou + k0 * 4 + 2,none⟩=some (.int .i64 (zn:Int))∧w'.cell? ⟨gf,zn,none⟩=some (.int .i64 n1)∧Kp w w')) (by kernel_rfl) ?_ (fun hHeld=>?_)
      · assumption
      generalize w3.drew=V at *
      refine tk 0 ⟨some 34,_,_,_,_,_⟩ ?_ rfl (by kernel_rfl) (fun _ _ _ h=>h) (by rfl) ?_ (by assumption) ?_
      rotate_left
      · intro w hSw;(try dsimp only at hSw);go_simp;(all_goals with_reducible rfl)
      try simp only [Act.put,sA,sB,sC]
      refine tk 1 ⟨some 35,_,_,_,_,_⟩ ?_ rfl (by kernel_rfl) (fun _ _ _ h=>h) (by rfl) ?_ (by assumption) ?_
      rotate_left
      · intro w hSw;(try dsimp only at hSw);go_simp;(all_goals with_reducible rfl)
      try simp only [Act.put,sA,sB,sC]
      refine tk 2 ⟨some 36,_,_,_,_,_⟩ ?_ rfl (by kernel_rfl) (fun _ _ _ h=>h) (by rfl) ?_ (by assumption) ?_
      rotate_left
      · intro w hSw;(try dsimp only at hSw);go_simp;(all_goals with_reducible rfl)
      try simp only [Act.put,sA,sB,sC]
      refine tk 3 ⟨some 37,_,_,_,_,_⟩ ?_ rfl (by kernel_rfl) (fun _ _ _ h=>h) (by rfl) ?_ (by assumption) ?_
      rotate_left
      · intro w hSw;(try dsimp only at hSw);go_simp;(all_goals with_reducible rfl)
      try simp only [Act.put,sA,sB,sC]
      refine tk 4 ⟨some 38,_,_,_,_,_⟩ ?_ rfl (by kernel_rfl) (fun _ _ _ h=>h) (by rfl) ?_ (by assumption) ?_
      rotate_left
      · intro w hSw;(try dsimp only at hSw);go_simp;(all_goals with_reducible rfl)
      try simp only [Act.put,sA,sB,sC]
      refine tk 5 ⟨some 39,_,_,_,_,_⟩ ?_ rfl (by kernel_rfl) (fun _ _ _ h=>h) (by rfl) ?_ (by assumption) ?_
      rotate_left
      · intro w hSw;(try dsimp only at hSw);go_simp;(all_goals with_reducible rfl)
      try simp only [Act.put,sA,sB,sC]
      refine tk 6 ⟨some 40,_,_,_,_,_⟩ ?_ rfl (by kernel_rfl) (fun _ _ _ h=>h) (by rfl) ?_ (by assumption) ?_
      rotate_left
      · intro w hSw;(try dsimp only at hSw);go_simp;(all_goals with_reducible rfl)
      try simp only [Act.put,sA,sB,sC]
      refine tk 7 ⟨some 41,_,_,_,_,_⟩ ?_ rfl (by kernel_rfl) (fun _ _ _ h=>h) (by rfl) ?_ (by assumption) ?_
      rotate_left
      · intro w hSw;(try dsimp only at hSw);go_simp;(all_goals with_reducible rfl)
      try simp only [Act.put,sA,sB,sC]
      refine tk 8 ⟨some 42,_,_,_,_,_⟩ ?_ rfl (by kernel_rfl) (fun _ _ _ h=>h) (by rfl) ?_ (by assumption) ?_
      rotate_left
      · intro w hSw;(try dsimp only at hSw);go_simp;(all_goals with_reducible rfl)
      try simp only [Act.put,sA,sB,sC]
      refine tk 9 ⟨some 43,_,_,_,_,_⟩ ?_ rfl (by kernel_rfl) (fun _ _ _ h=>h) (by rfl) ?_ (by assumption) ?_
      rotate_left
      · intro w hSw;(try dsimp only at hSw);go_simp;(all_goals with_reducible rfl)
      try simp only [Act.put,sA,sB,sC]
      refine tk 10 ⟨some 44,_,_,_,_,_⟩ ?_ rfl (by kernel_rfl) (fun _ _ _ h=>h) (by rfl) ?_ (by assumption) ?_
      rotate_left
      · intro w hSw;(try dsimp only at hSw);go_simp;(all_goals with_reducible rfl)
      try simp only [Act.put,sA,sB,sC]
      refine tk 11 ⟨some 45,_,_,_,_,_⟩ ?_ rfl (by kernel_rfl) (fun _ _ _ h=>h) (by rfl) ?_ (by assumption) ?_
      rotate_left
      · intro w hSw;(try dsimp only at hSw);go_simp;(all_goals with_reducible rfl)
      try simp only [Act.put,sA,sB,sC]
      refine tk 12 ⟨some 46,_,_,_,_,_⟩ ?_ rfl (by kernel_rfl) (fun _ _ _ h=>h) (by rfl) ?_ (by assumption) ?_
      rotate_left
      · intro w hSw;(try dsimp only at hSw);go_simp;(all_goals with_reducible rfl)
      try simp only [Act.put,sA,sB,sC]
      refine tk 13 ⟨some 8,_,_,_,_,_⟩ ?_ rfl (by kernel_rfl) (fun _ _ _ h=>h) (by rfl) ?_ (by assumption) ?_
      rotate_left
      · intro w hSw;(try dsimp only at hSw);go_simp;(all_goals with_reducible rfl)
      try simp only [Act.put,sA,sB,sC]
      refine tk 14 ⟨some 9,_,_,_,_,_⟩ ?_ rfl (by kernel_rfl) (fun _ _ _ h=>h) (by rfl) ?_ (by assumption) ?_
      rotate_left
      · intro w hSw;(try dsimp only at hSw);go_simp;(all_goals with_reducible rfl)
      try simp only [Act.put,sA,sB,sC]
      refine wpAnyH_done (by kernel_rfl) ?_ _
      go_wp2_with fail
      go_ret2
      exact ⟨rfl,hHeld.2.2.2.2⟩
end Go.Proofs.YtgefinicjphmpaaGreatDoor
