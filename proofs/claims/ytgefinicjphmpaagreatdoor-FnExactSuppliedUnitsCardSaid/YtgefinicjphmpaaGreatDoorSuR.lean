import Derived.Maps.AppendAt
import Derived.Deep.Cut
import Derived.Deep.RegionHeld3
import Derived.Test.YtgefinicjphmpaaGreatDoorSuO
import Derived.Test.YtgefinicjphmpaaGreatDoorZnH
import Derived.Test.YtgefinicjphmpaaGreatDoorQr
namespace Go.Proofs.YtgefinicjphmpaaGreatDoor
open Go.RowKit
set_option maxRecDepth 100000 in
set_option maxHeartbeats 4000000 in
theorem unitsWhere_P (lb:Array Value) (T Z:Int) (u:Value) (us:List Uni) (F:Uni→Bool) (W1 w:World) (hS:StaAt w u us) (hn12:us.length ≤ 12) (HP:∀ z ∈ us,∀ w,Kp W1 w→Calls Tryz.prog 82 (#[ux z.s z.k z.a z.t] ++ lb) w fun e' w'=>e'=.returned (.bool (F z))∧Kp w w') (hk:Kp W1 w) :
    Calls Tryz.prog 81 #[sv T Z u,.func (.func 82) #[] lb] w fun e' w'=>∃ v,e'=.returned v∧OwnI w' w.heap.size v (unL F us us.length)∧Kp w w':=by
  obtain ⟨A,cp,rfl,h⟩:=hS.rd
  have HA:=Lib.hid h
  have HPP:=Lib.hid HP
  generalize hN:us.length=N at *
  have HN:=Lib.hid hN
  obtain ⟨j0,hj0,hz0,hs0,hb0⟩:=info_parts infoInt
  have k0:Kp w (w.alloc (.cells #[.int .i64 T,.int .i64 Z,.slice A N cp] 48)):=(Kp.refl w).alloc _
  clear HP h hN hS
  go_enter Tryz.func81,Tryz.ntmps81
  go_wp2_with fail
  go_loopw [5,6,11] (fun v _ sq wx=>∃ q:Nat,q ≤ N∧sq=.int .i64 q∧OwnI wx w.heap.size v (unL F us q)∧Kp w wx) (fun _ _ sq _=>N - (intOf sq).toNat)
  case atStart=>exact ⟨0,by omega,rfl,OwnI.nil _ _,k0⟩
  case round =>
    clear k0
    obtain ⟨q,hqn,rfl,ho,kr⟩:=hrel
    by_cases hlt:q < N
    · have hlt':(q:Int) < N:=by omega
      obtain ⟨g,off,rfl,hc⟩:=HA.out (by omega)
      obtain ⟨⟨sx,kx,ax,tx⟩,hx⟩:∃ x,us[q]?=some x:=⟨us[q]'(by have:=HN.out;omega),List.getElem?_eq_getElem _⟩
      obtain ⟨a0,a1,a2,a3⟩:=(hc q _ hx).keep kr
      simp only at a0 a1 a2 a3
      have HX:=Lib.hid hx
      have HC:=Lib.hid (HPP.out _ (List.mem_of_getElem? hx))
      have hln:=Lib.hid (unL_len F us q)
      have kbw:Kp wr (wr.alloc (.cells #[.int .i64 sx,.int .i64 kx,.int .i64 ax,.int .i64 tx] 103)):=(Kp.refl wr).alloc _
      have HO:=Lib.hid (ho.keep kbw)
      have kr1:=kr.trans kbw
      clear hc hx ho
      cases hF:F ⟨sx,kx,ax,tx⟩
      · rw [hF] at HC
        have HS:=Lib.hid (unL_no HX.out hF)
        clear hF
        go_wp2_with (go_at_call 82;refine (HC.out _ (hk.trans kr1)).mono ?_;rintro e2 w2 ⟨rfl,k2⟩)
        go_roundw
        case rel=>exact ⟨q + 1,by omega,by go_num,by rw [HS.out];exact HO.out.keep k2,kr1.trans k2⟩
        case measure=>simp [intOf];omega
      · rw [hF] at HC
        have HS:=Lib.hid (unL_yes HX.out hF)
        clear hF
        go_wp2_with fail
        refine (HC.out _ (hk.trans kr1)).mono ?_
        rintro e2 w2 ⟨rfl,k2⟩
        have HO1:=Lib.hid (HO.out.keep k2)
        have k3:=kr1.trans k2
        clear HO k2 kr kr1 kbw
        go_wp2_with (at_builtin;refine wpList_append_own_at _ rfl (.tmp 19) (.tmp 21) 26 rfl (w.heap.size) 3 j0 (.int .i64 0) 1 8 Tryz.underlying26 hj0 hz0 hs0 hb0 rfl (by decide) _ (unL F us q).length (cellsI (unL F us q)) rfl (World.ownsRow.alloc HO1.out _) ⟨w2.heap.size,0,none⟩ 1 1 [.int .i64 (q:Int)] rfl rfl (one_cell _ _ _) (by simp [Value.oneCell']) (by have:=hln.out;simp only [maxLen];omega) (by have:=hln.out;omega) (by have h5:=k3.size;simp;omega) ?_;intro v' w3 hown2 hgrow2 hnil2 hat2;clear hnil2 hat2;have K5:Kp w w3:=(k3.alloc _).grown hgrow2 (fun k e=>by have:=(World.ownsRow.lt HO1.out k e).1;omega);have O3:=Lib.hid (OwnI.snoc (x:=(q:Int)) hown2);clear hown2 hgrow2)
        go_roundw
        case rel=>exact ⟨q + 1,by omega,by go_num,by rw [HS.out];exact O3.out,K5⟩
        case measure=>simp [intOf];omega
    · obtain rfl:q=N:=by omega
      go_wp2_with fail
      go_ret
      exact ⟨_,rfl,ho,kr⟩
theorem unL_filter {f G:Uni→Bool} {us:List Uni}:∀ k:Nat,k ≤ us.length→(unL f us k).filter (fun i=>G (unN us i))=unL (fun z=>f z && G z) us k
  | 0,_=>rfl
  | k + 1,h=>by
    have ih:=unL_filter (f:=f) (G:=G) (us:=us) k (by omega)
    obtain ⟨z,hz⟩:∃ z,us[k]?=some z:=⟨us[k],List.getElem?_eq_getElem (by omega)⟩
    have hn:unN us (k:Int)=z:=by unfold unN;simp [hz]
    cases hf:f z
    · rw [unL_no hz hf,unL_no hz (by simp [hf]),ih]
    · rw [unL_yes hz hf,List.filter_append,ih]
      cases hg:G z
      · rw [unL_no hz (by simp [hg])]
        simp [hn,hg]
      · rw [unL_yes hz (by simp [hf,hg])]
        simp [hn,hg]
set_option maxRecDepth 100000 in
set_option maxHeartbeats 4000000 in
theorem supClo_any (At Ak:Option Addr) (nt nk ct ck:Nat) (l:List Ter) (m:List Knd) (a b c d e W H:Int) (x r y:Value) (lt lr ld:List Int) (T Z:Int) (u:Value) (us:List Uni) (sd:Int) (Aq:Option Addr) (nq cq:Nat) (src:List Nat) (k:Nat) (us_ ua ut:Int) (Bs B:Nat) (w:World) (ht:Tab w) (hB:BrdAt w At Ak nt nk l m x r y lt lr ld) (hS:StaAt w u us) (hok:brdOk ⟨l,m,a,b,c,d,e⟩ W H lt lr ld=true) (hst:staOk ⟨l,m,a,b,c,d,e⟩ W H lt T Z us=true) (hk:k < m.length) (hq:RdI w (.slice Aq nq cq) (ints src)) (hs:∀ k ∈ src,k < lt.length) (hsl:src.length ≤ 100) (hsd:sd=0 ∨ sd=1) (hua:ua=-1 ∨ (0 ≤ ua∧ua < lt.length))
    (hc:w.cell? ⟨Bs,0,none⟩=some (.int .i64 sd)) (hB1:World.rangeAt w B 0 [.slice At nt ct,.slice Ak nk ck,.int .i64 a,.int .i64 b,.int .i64 c,.int .i64 d,.int .i64 e,.int .i64 W,.int .i64 H,x,r,y,.int .i64 T,.int .i64 Z,u,.int .i64 sd,.slice Aq nq cq]) :
    Calls Tryz.prog 82 #[ux us_ (k:Int) ua ut,.pointer (some ⟨Bs,0,none⟩),.pointer (some ⟨B,0,none⟩)] w fun e' w'=>e'=.returned (.bool (decide (us_=sd) && (decide (ua ≠ -1) && insB (wayN (fun j=>pasB l m lt lr ld W us sd k j) W H src lt.length ua.toNat).length d)))∧Kp w w':=by
  have KA:Kp w (w.alloc (.cells #[.int .i64 us_,.int .i64 (k:Int),.int .i64 ua,.int .i64 ut] 103)):=(Kp.refl w).alloc _
  have I17:Hid ((Tryz.prog.info? 80).map (·.size)=some 17):=Lib.hid (by kernel_rfl)
  have CX:=Lib.hid (supplies_any At Ak nt nk ct ck l m a b c d e W H x r y lt lr ld T Z u us sd Aq nq cq src k us_ ua ut none 0 0 [] (w.alloc (.cells #[.int .i64 us_,.int .i64 (k:Int),.int .i64 ua,.int .i64 ut] 103)) (ht.keep KA) (hB.keep KA) (hS.keep KA) hok hst hk (hq.keep KA) hs hsl hsd ⟨none,0,rfl,fun h=>by cases h⟩ (by simp) hua)
  rw [bl_nil] at CX
  generalize (decide (ua ≠ -1) && insB (wayN (fun j=>pasB l m lt lr ld W us sd k j) W H src lt.length ua.toNat).length d)=R at CX ⊢
  have s0:=range_keep hB1 KA
  have hc1:=KA.cell hc
  have cc:ce4 (w.alloc (.cells #[.int .i64 us_,.int .i64 (k:Int),.int .i64 ua,.int .i64 ut] 103)) (w.heap.size) (.int .i64 us_) (.int .i64 (k:Int)) (.int .i64 ua) (.int .i64 ut):=⟨by simp [go_sem],by simp [go_sem],by simp [go_sem],by simp [go_sem]⟩
  clear ht hB hS hok hst hk hq hs hsl hsd hua hc hB1
  by_cases he:us_=sd
  · have he1:(us_ == sd)=true:=by simpa using he
    rw [decide_eq_true he,Bool.true_and]
    clear he
    go_enter Tryz.func82,Tryz.ntmps82
    go_upto_region 1 with (fail)
    generalize (w.alloc (.cells #[.int .i64 us_,.int .i64 (k:Int),.int .i64 ua,.int .i64 ut] 103))=W0 at *
    obtain ⟨c0,c1,c2,c3⟩:=cc
    go_wp2_with (first | ((with_reducible refine load_m s0 Tryz.underlying80 ?_ ?_ ?_ ?_ ?_);exact I17.out;rfl;rfl;rfl))
    refine CX.out.mono ?_
    rintro e1 w1 ⟨rfl,k1⟩
    go_wp2_with fail
    go_ret
    exact ⟨ret_bool (by simp),KA.trans k1⟩
  · have he1:(us_ == sd)=false:=by simpa using he
    rw [decide_eq_false he,Bool.false_and]
    clear he CX
    go_enter Tryz.func82,Tryz.ntmps82
    go_upto_region 1 with (fail)
    generalize (w.alloc (.cells #[.int .i64 us_,.int .i64 (k:Int),.int .i64 ua,.int .i64 ut] 103))=W0 at *
    obtain ⟨c0,c1,c2,c3⟩:=cc
    go_wp2_with fail
    go_ret
    exact ⟨ret_bool (by simp),KA⟩
set_option maxRecDepth 100000 in
set_option maxHeartbeats 4000000 in
theorem suppliedUnitsP_s (At Ak:Option Addr) (nt nk ct ck:Nat) (l:List Ter) (m:List Knd) (a b c d e W H:Int) (Ax Ar Ay:Option Addr) (nx cx nr cr ny cy:Nat) (lt lr ld:List Int) (T Z:Int) (Au:Option Addr) (nu cu:Nat) (us:List Uni) (sd:Int) (Aq:Option Addr) (nq cq:Nat) (ls:List Int) (w:World) (hs:Spans w) (ht:Tab w) (hu:SpU w) (hB:BrdAt w At Ak nt nk l m (.slice Ax nx cx) (.slice Ar nr cr) (.slice Ay ny cy) lt lr ld) (hS:StaAt w (.slice Au nu cu) us) (hq:RdI w (.slice Aq nq cq) ls) (hql:ls.length ≤ 1048576) :
    Calls Tryz.prog 35 #[bv (.slice At nt ct) (.slice Ak nk ck) a b c d e W H (.slice Ax nx cx) (.slice Ar nr cr) (.slice Ay ny cy),sv T Z (.slice Au nu cu),.int .i64 sd,.slice Aq nq cq] w (ListPostI (((brdOk ⟨l,m,a,b,c,d,e⟩ W H lt lr ld && staOk ⟨l,m,a,b,c,d,e⟩ W H lt T Z us) && spB 0 1 sd) && srcOk W H ls) (unL (fun z=>decide (z.s=sd) && supU l m lt lr ld W us H d ls z) us us.length) w):=by
  have KA:Kp w (((w.alloc (.cells #[.slice At nt ct,.slice Ak nk ck,.int .i64 a,.int .i64 b,.int .i64 c,.int .i64 d,.int .i64 e,.int .i64 W,.int .i64 H,.slice Ax nx cx,.slice Ar nr cr,.slice Ay ny cy] 44)).alloc (.cells #[.int .i64 T,.int .i64 Z,.slice Au nu cu] 48)).alloc (.cells #[.int .i64 sd] 3)):=(((Kp.refl w).alloc _).alloc _).alloc _
  have H0:Hid (∀ w',Kp (((w.alloc (.cells #[.slice At nt ct,.slice Ak nk ck,.int .i64 a,.int .i64 b,.int .i64 c,.int .i64 d,.int .i64 e,.int .i64 W,.int .i64 H,.slice Ax nx cx,.slice Ar nr cr,.slice Ay ny cy] 44)).alloc (.cells #[.int .i64 T,.int .i64 Z,.slice Au nu cu] 48)).alloc (.cells #[.int .i64 sd] 3)) w'→World.rangeAt w' w.heap.size 0 [.slice At nt ct,.slice Ak nk ck,.int .i64 a,.int .i64 b,.int .i64 c,.int .i64 d,.int .i64 e,.int .i64 W,.int .i64 H,.slice Ax nx cx,.slice Ar nr cr,.slice Ay ny cy]∧World.rangeAt w' (w.heap.size + 1) 0 [.int .i64 T,.int .i64 Z,.slice Au nu cu]∧w'.cell? ⟨w.heap.size + 1 + 1,0,none⟩=some (.int .i64 sd)):=Lib.hid fun w' k=>by
      have r3:=range_fresh (w.alloc (.cells #[.slice At nt ct,.slice Ak nk ck,.int .i64 a,.int .i64 b,.int .i64 c,.int .i64 d,.int .i64 e,.int .i64 W,.int .i64 H,.slice Ax nx cx,.slice Ar nr cr,.slice Ay ny cy] 44)) [.int .i64 T,.int .i64 Z,.slice Au nu cu] 48
      rw [show (w.alloc (.cells #[.slice At nt ct,.slice Ak nk ck,.int .i64 a,.int .i64 b,.int .i64 c,.int .i64 d,.int .i64 e,.int .i64 W,.int .i64 H,.slice Ax nx cx,.slice Ar nr cr,.slice Ay ny cy] 44)).heap.size=w.heap.size + 1 by simp] at r3
      exact ⟨range_keep (range_fresh w [.slice At nt ct,.slice Ak nk ck,.int .i64 a,.int .i64 b,.int .i64 c,.int .i64 d,.int .i64 e,.int .i64 W,.int .i64 H,.slice Ax nx cx,.slice Ar nr cr,.slice Ay ny cy] 44) ((((Kp.refl _).alloc _).alloc _).trans k),range_keep r3 (((Kp.refl _).alloc _).trans k),k.cell (by simp [go_sem])⟩
  have I12:Hid ((Tryz.prog.info? 44).map (·.size)=some 12):=Lib.hid (by kernel_rfl)
  have I3:Hid ((Tryz.prog.info? 48).map (·.size)=some 3):=Lib.hid (by kernel_rfl)
  have I17:Hid ((Tryz.prog.info? 80).map (·.size)=some 17):=Lib.hid (by kernel_rfl)
  have I4:Hid ((Tryz.prog.info? 103).map (·.size)=some 4):=Lib.hid (by kernel_rfl)
  have I5:Hid ((Tryz.prog.info? 42).map (·.size)=some 5):=Lib.hid (by kernel_rfl)
  have HSP:=Lib.hid hs
  have HT:=Lib.hid ht
  have HU:=Lib.hid hu
  have HB:=Lib.hid hB
  have HS:=Lib.hid hS
  have HQ:=Lib.hid hq
  have CSU:=Lib.hid (fun (w:World) hs ht hu hB hS hq=>supplierOf_any At Ak nt nk ct ck l m a b c d e W H (.slice Ax nx cx) (.slice Ar nr cr) (.slice Ay ny cy) lt lr ld T Z (.slice Au nu cu) us sd Aq nq cq ls w hs ht hu hB hS hq hql)
  clear hs ht hu hB hS hq hql
  cases hg:((brdOk ⟨l,m,a,b,c,d,e⟩ W H lt lr ld && staOk ⟨l,m,a,b,c,d,e⟩ W H lt T Z us) && spB 0 1 sd) && srcOk W H ls
  · rw [hg,if_neg Bool.false_ne_true] at CSU
    clear hg
    go_enter Tryz.func35,Tryz.ntmps35
    go_upto_region 1 with (fail)
    generalize (((w.alloc (.cells #[.slice At nt ct,.slice Ak nk ck,.int .i64 a,.int .i64 b,.int .i64 c,.int .i64 d,.int .i64 e,.int .i64 W,.int .i64 H,.slice Ax nx cx,.slice Ar nr cr,.slice Ay ny cy] 44)).alloc (.cells #[.int .i64 T,.int .i64 Z,.slice Au nu cu] 48)).alloc (.cells #[.int .i64 sd] 3))=W0 at *
    obtain ⟨s12,s3,c6⟩:=H0.out W0 (Kp.refl _)
    go_wp2_with (first | ((with_reducible refine load_m s12 Tryz.underlying44 ?_ ?_ ?_ ?_ ?_);exact I12.out;rfl;rfl;rfl) | ((with_reducible refine load_m s3 Tryz.underlying48 ?_ ?_ ?_ ?_ ?_);exact I3.out;rfl;rfl;rfl))
    refine (CSU.out _ (HSP.out.keep KA) (HT.out.keep KA) (HU.out.keep KA) (HB.out.keep KA) (HS.out.keep KA) (HQ.out.keep KA)).mono ?_
    rintro e1 w1 ⟨rfl,q1⟩
    have K1:=KA.trans q1
    clear s12 s3 c6
    have t17:World.there (w1.alloc (.cells #[.slice none 0 0,.slice none 0 0,.int .i64 0,.int .i64 0,.int .i64 0,.int .i64 0,.int .i64 0,.int .i64 0,.int .i64 0,.slice none 0 0,.slice none 0 0,.slice none 0 0,.int .i64 0,.int .i64 0,.slice none 0 0,.int .i64 0,.slice none 0 0] 80)) w1.heap.size 0 (#[.slice none 0 0,.slice none 0 0,.int .i64 0,.int .i64 0,.int .i64 0,.int .i64 0,.int .i64 0,.int .i64 0,.int .i64 0,.slice none 0 0,.slice none 0 0,.slice none 0 0,.int .i64 0,.int .i64 0,.slice none 0 0,.int .i64 0,.slice none 0 0]:Array Value).size:=there_fresh w1 [.slice none 0 0,.slice none 0 0,.int .i64 0,.int .i64 0,.int .i64 0,.int .i64 0,.int .i64 0,.int .i64 0,.int .i64 0,.slice none 0 0,.slice none 0 0,.slice none 0 0,.int .i64 0,.int .i64 0,.slice none 0 0,.int .i64 0,.slice none 0 0] 80
    obtain ⟨W9,hW9⟩:∃ W9,W9=(w1.alloc (.cells #[.slice none 0 0,.slice none 0 0,.int .i64 0,.int .i64 0,.int .i64 0,.int .i64 0,.int .i64 0,.int .i64 0,.int .i64 0,.slice none 0 0,.slice none 0 0,.slice none 0 0,.int .i64 0,.int .i64 0,.slice none 0 0,.int .i64 0,.slice none 0 0] 80)).setCells w1.heap.size 0 (#[.slice none 0 0,.slice none 0 0,.int .i64 0,.int .i64 0,.int .i64 0,.int .i64 0,.int .i64 0,.int .i64 0,.int .i64 0,.slice none 0 0,.slice none 0 0,.slice none 0 0,.int .i64 0,.int .i64 0,.slice none 0 0,.int .i64 0,.slice none 0 0]:Array Value).toList:=⟨_,rfl⟩
    have r9:World.rangeAt W9 w1.heap.size 0 [.slice none 0 0,.slice none 0 0,.int .i64 0,.int .i64 0,.int .i64 0,.int .i64 0,.int .i64 0,.int .i64 0,.int .i64 0,.slice none 0 0,.slice none 0 0,.slice none 0 0,.int .i64 0,.int .i64 0,.slice none 0 0,.int .i64 0,.slice none 0 0]:=by
      rw [hW9]
      exact World.rangeAt_setCells_same _ _ _ _ t17
    have K9:Kp w W9:=by
      have hz:=K1.size
      rw [hW9]
      exact kp_cells (by omega) _ _ _ (K1.alloc _)
    have kW0:Kp W0 W9:=by
      have hz:=q1.size
      rw [hW9]
      exact kp_cells (by omega) _ _ _ (q1.alloc _)
    have HW9:=Lib.hid hW9
    clear hW9
    obtain ⟨s12,s3,c6⟩:=H0.out W9 kW0
    have s5:=range_part s12 7 5
    go_wp2_with (first | ((with_reducible refine store_m t17 ?_ ?_ ?_ ?_ ?_ ?_);exact I17.out;(simp [Value.oneCell']);rfl;rfl;rfl;rw [← HW9.out]) | ((with_reducible refine load_m r9 Tryz.underlying80 ?_ ?_ ?_ ?_ ?_);exact I17.out;rfl;rfl;rfl) | ((with_reducible refine load_m s12 Tryz.underlying44 ?_ ?_ ?_ ?_ ?_);exact I12.out;rfl;rfl;rfl) | ((with_reducible refine load_m s3 Tryz.underlying48 ?_ ?_ ?_ ?_ ?_);exact I3.out;rfl;rfl;rfl) | ((with_reducible refine load_m s5 Tryz.underlying42 ?_ ?_ ?_ ?_ ?_);exact I5.out;rfl;rfl;rfl))
    go_ret2
    exact ListPostI.no K9
  · rw [hg,if_pos rfl] at CSU
    simp only [Bool.and_eq_true] at hg
    obtain ⟨⟨⟨hok,hst⟩,hsd0⟩,hsr⟩:=hg
    have hsd:sd=0 ∨ sd=1:=by
      simp only [spB,Bool.and_eq_true,decide_eq_true_iff] at hsd0
      omega
    obtain ⟨p1,p2,p3,p4⟩:=mapOk_side (brdOk_map hok)
    have hlen:=mapOk_len (brdOk_map hok)
    obtain ⟨hsn,hsb,hsd2⟩:=srcOk_nat hsr
    have hsb':=hsb lt.length hlen
    have hsl:(srcN ls).length ≤ 100:=by
      have h1:=(srcOk_parts hsr).1
      unfold srcN
      rw [List.length_map]
      omega
    have HSN:=Lib.hid hsn
    have CWH:=Lib.hid (fun (B:Nat) (w0:World) (hS:StaAt w0 (.slice Au nu cu) us) (h9:World.rangeAt w0 B 0 [.slice At nt ct,.slice Ak nk ck,.int .i64 a,.int .i64 b,.int .i64 c,.int .i64 d,.int .i64 e,.int .i64 W,.int .i64 H,.slice Ax nx cx,.slice Ar nr cr,.slice Ay ny cy,.int .i64 T,.int .i64 Z,.slice Au nu cu,.int .i64 sd,.slice Aq nq cq]) (h6:w0.cell? ⟨w.heap.size + 1 + 1,0,none⟩=some (.int .i64 sd)) (ht:Tab w0) (hB:BrdAt w0 At Ak nt nk l m (.slice Ax nx cx) (.slice Ar nr cr) (.slice Ay ny cy) lt lr ld) (hq:RdI w0 (.slice Aq nq cq) (ints (srcN ls)))=>unitsWhere_P #[.pointer (some ⟨w.heap.size + 1 + 1,0,none⟩),.pointer (some ⟨B,0,none⟩)] T Z (.slice Au nu cu) us (fun z=>decide (z.s=sd) && supU l m lt lr ld W us H d ls z) w0 w0 hS (staOk_parts hst).2.1 (fun z hz w' k'=>by
      have hu:=(staOk_parts hst).2.2.1 z hz
      obtain ⟨h1,_,_,_⟩:=uniOk_side hu
      obtain ⟨jj,_,h5,h6',_,_⟩:=uniOk_kind hu
      have h7:z.a=-1 ∨ (0 ≤ z.a∧z.a < lt.length):=by
        by_cases ha:z.a=-1
        · exact .inl ha
        · obtain ⟨g1,g2⟩:=onI_true (uniOk_on hu ha)
          exact .inr ⟨g1,by omega⟩
      obtain ⟨zs,zk,za,zt⟩:=z
      simp only at h1 h5 h7
      subst h5
      have h:=supClo_any At Ak nt nk ct ck l m a b c d e W H (.slice Ax nx cx) (.slice Ar nr cr) (.slice Ay ny cy) lt lr ld T Z (.slice Au nu cu) us sd Aq nq cq (srcN ls) jj zs za zt (w.heap.size + 1 + 1) B w' (ht.keep k') (hB.keep k') (hS.keep k') hok hst h6' (hq.keep k') hsb' hsl hsd h7 (k'.cell h6) (range_keep h9 k')
      have e:(decide (zs=sd) && (decide (za ≠ -1) && insB (wayN (fun j=>pasB l m lt lr ld W us sd jj j) W H (srcN ls) lt.length za.toNat).length d))=(fun z=>decide (z.s=sd) && supU l m lt lr ld W us H d ls z) ⟨zs,(jj:Int),za,zt⟩:=by
        by_cases hzs:zs=sd
        · subst hzs;simp [supU,wayU]
        · simp [hzs]
      rw [e] at h
      exact h) (Kp.refl _))
    generalize unL (fun z=>decide (z.s=sd) && supU l m lt lr ld W us H d ls z) us us.length=UL at *
    clear hok hst hsd0 hsd hsr hlen hsn hsb hsb' hsd2 hsl p1 p2 p3 p4
    go_enter Tryz.func35,Tryz.ntmps35
    go_upto_region 1 with (fail)
    generalize (((w.alloc (.cells #[.slice At nt ct,.slice Ak nk ck,.int .i64 a,.int .i64 b,.int .i64 c,.int .i64 d,.int .i64 e,.int .i64 W,.int .i64 H,.slice Ax nx cx,.slice Ar nr cr,.slice Ay ny cy] 44)).alloc (.cells #[.int .i64 T,.int .i64 Z,.slice Au nu cu] 48)).alloc (.cells #[.int .i64 sd] 3))=W0 at *
    obtain ⟨s12,s3,c6⟩:=H0.out W0 (Kp.refl _)
    go_wp2_with (first | ((with_reducible refine load_m s12 Tryz.underlying44 ?_ ?_ ?_ ?_ ?_);exact I12.out;rfl;rfl;rfl) | ((with_reducible refine load_m s3 Tryz.underlying48 ?_ ?_ ?_ ?_ ?_);exact I3.out;rfl;rfl;rfl))
    refine (CSU.out _ (HSP.out.keep KA) (HT.out.keep KA) (HU.out.keep KA) (HB.out.keep KA) (HS.out.keep KA) (HQ.out.keep KA)).mono ?_
    rintro e1 w1 ⟨rfl,q1⟩
    have K1:=KA.trans q1
    clear s12 s3 c6
    have t17:World.there (w1.alloc (.cells #[.slice none 0 0,.slice none 0 0,.int .i64 0,.int .i64 0,.int .i64 0,.int .i64 0,.int .i64 0,.int .i64 0,.int .i64 0,.slice none 0 0,.slice none 0 0,.slice none 0 0,.int .i64 0,.int .i64 0,.slice none 0 0,.int .i64 0,.slice none 0 0] 80)) w1.heap.size 0 (#[.slice At nt ct,.slice Ak nk ck,.int .i64 a,.int .i64 b,.int .i64 c,.int .i64 d,.int .i64 e,.int .i64 W,.int .i64 H,.slice Ax nx cx,.slice Ar nr cr,.slice Ay ny cy,.int .i64 T,.int .i64 Z,.slice Au nu cu,.int .i64 sd,.slice Aq nq cq]:Array Value).size:=there_fresh w1 [.slice none 0 0,.slice none 0 0,.int .i64 0,.int .i64 0,.int .i64 0,.int .i64 0,.int .i64 0,.int .i64 0,.int .i64 0,.slice none 0 0,.slice none 0 0,.slice none 0 0,.int .i64 0,.int .i64 0,.slice none 0 0,.int .i64 0,.slice none 0 0] 80
    obtain ⟨W9,hW9⟩:∃ W9,W9=(w1.alloc (.cells #[.slice none 0 0,.slice none 0 0,.int .i64 0,.int .i64 0,.int .i64 0,.int .i64 0,.int .i64 0,.int .i64 0,.int .i64 0,.slice none 0 0,.slice none 0 0,.slice none 0 0,.int .i64 0,.int .i64 0,.slice none 0 0,.int .i64 0,.slice none 0 0] 80)).setCells w1.heap.size 0 (#[.slice At nt ct,.slice Ak nk ck,.int .i64 a,.int .i64 b,.int .i64 c,.int .i64 d,.int .i64 e,.int .i64 W,.int .i64 H,.slice Ax nx cx,.slice Ar nr cr,.slice Ay ny cy,.int .i64 T,.int .i64 Z,.slice Au nu cu,.int .i64 sd,.slice Aq nq cq]:Array Value).toList:=⟨_,rfl⟩
    have r9:World.rangeAt W9 w1.heap.size 0 [.slice At nt ct,.slice Ak nk ck,.int .i64 a,.int .i64 b,.int .i64 c,.int .i64 d,.int .i64 e,.int .i64 W,.int .i64 H,.slice Ax nx cx,.slice Ar nr cr,.slice Ay ny cy,.int .i64 T,.int .i64 Z,.slice Au nu cu,.int .i64 sd,.slice Aq nq cq]:=by
      rw [hW9]
      exact World.rangeAt_setCells_same _ _ _ _ t17
    have K9:Kp w W9:=by
      have hz:=K1.size
      rw [hW9]
      exact kp_cells (by omega) _ _ _ (K1.alloc _)
    have kW0:Kp W0 W9:=by
      have hz:=q1.size
      rw [hW9]
      exact kp_cells (by omega) _ _ _ (q1.alloc _)
    have HW9:=Lib.hid hW9
    clear hW9
    obtain ⟨s12,s3,c6⟩:=H0.out W9 kW0
    have s5:=range_part s12 7 5
    have CW:=Lib.hid (CWH.out w1.heap.size W9 (HS.out.keep K9) r9 c6 (HT.out.keep K9) (HB.out.keep K9) (by rw [HSN.out];exact HQ.out.keep K9))
    go_wp2_with (first | ((with_reducible refine store_m t17 ?_ ?_ ?_ ?_ ?_ ?_);exact I17.out;(simp [Value.oneCell']);rfl;rfl;rfl;rw [← HW9.out]) | ((with_reducible refine load_m r9 Tryz.underlying80 ?_ ?_ ?_ ?_ ?_);exact I17.out;rfl;rfl;rfl) | ((with_reducible refine load_m s12 Tryz.underlying44 ?_ ?_ ?_ ?_ ?_);exact I12.out;rfl;rfl;rfl) | ((with_reducible refine load_m s3 Tryz.underlying48 ?_ ?_ ?_ ?_ ?_);exact I3.out;rfl;rfl;rfl) | ((with_reducible refine load_m s5 Tryz.underlying42 ?_ ?_ ?_ ?_ ?_);exact I5.out;rfl;rfl;rfl))
    refine CW.out.mono ?_
    rintro e2 w2 ⟨v2,rfl,o2,q2⟩
    have HO:=Lib.hid (o2.base K9.size)
    clear o2
    go_wp2_with fail
    go_ret2
    exact ⟨_,rfl,HO.out,K9.trans q2⟩
theorem suppliedUnitsP_any (At Ak:Option Addr) (nt nk ct ck:Nat) (l:List Ter) (m:List Knd) (a b c d e W H:Int) (x r y:Value) (lt lr ld:List Int) (T Z:Int) (u:Value) (us:List Uni) (sd:Int) (Aq:Option Addr) (nq cq:Nat) (ls:List Int) (w:World) (hs:Spans w) (ht:Tab w) (hu:SpU w) (hB:BrdAt w At Ak nt nk l m x r y lt lr ld) (hS:StaAt w u us) (hq:RdI w (.slice Aq nq cq) ls) (hql:ls.length ≤ 1048576) :
    Calls Tryz.prog 35 #[bv (.slice At nt ct) (.slice Ak nk ck) a b c d e W H x r y,sv T Z u,.int .i64 sd,.slice Aq nq cq] w (ListPostI (((brdOk ⟨l,m,a,b,c,d,e⟩ W H lt lr ld && staOk ⟨l,m,a,b,c,d,e⟩ W H lt T Z us) && spB 0 1 sd) && srcOk W H ls) (unL (fun z=>decide (z.s=sd) && supU l m lt lr ld W us H d ls z) us us.length) w):=by
  obtain ⟨Ax,cx,rfl,_⟩:=hB.L.rt
  obtain ⟨Ar,cr,rfl,_⟩:=hB.L.rr
  obtain ⟨Ay,cy,rfl,_⟩:=hB.L.rd
  obtain ⟨Au,cu,rfl,_⟩:=hS.rd
  exact suppliedUnitsP_s At Ak nt nk ct ck l m a b c d e W H Ax Ar Ay lt.length cx lr.length cr ld.length cy lt lr ld T Z Au us.length cu us sd Aq nq cq ls w hs ht hu hB hS hq hql
set_option maxRecDepth 100000 in
set_option maxHeartbeats 4000000 in
theorem specSuppliedUnits_any (At Ak:Option Addr) (nt nk ct ck:Nat) (l:List Ter) (m:List Knd) (a b c d e W H:Int) (x r y:Value) (lt lr ld:List Int) (T Z:Int) (u:Value) (us:List Uni) (sd:Int) (Aq:Option Addr) (nq cq:Nat) (ls:List Int) (w:World) (hB:BrdAt w At Ak nt nk l m x r y lt lr ld) (hS:StaAt w u us) (hq:RdI w (.slice Aq nq cq) ls) (hql:ls.length ≤ 1048576) :
    Calls Tryz.prog 34 #[bv (.slice At nt ct) (.slice Ak nk ck) a b c d e W H x r y,sv T Z u,.int .i64 sd,.slice Aq nq cq] w (ListPostI (((brdOk ⟨l,m,a,b,c,d,e⟩ W H lt lr ld && staOk ⟨l,m,a,b,c,d,e⟩ W H lt T Z us) && spB 0 1 sd) && srcOk W H ls) (unL (fun z=>decide (z.s=sd) && supU l m lt lr ld W us H d ls z) us us.length) w):=by
  have KA:Kp w ((w.alloc (.cells #[.slice At nt ct,.slice Ak nk ck,.int .i64 a,.int .i64 b,.int .i64 c,.int .i64 d,.int .i64 e,.int .i64 W,.int .i64 H,x,r,y] 44)).alloc (.cells #[.int .i64 T,.int .i64 Z,u] 48)):=((Kp.refl w).alloc _).alloc _
  have hnq:ls.length=nq:=by
    obtain ⟨A',c',e1,_⟩:=hq
    simp only [Value.slice.injEq] at e1
    exact e1.2.1.symm
  have H0:Hid (∀ w',Kp ((w.alloc (.cells #[.slice At nt ct,.slice Ak nk ck,.int .i64 a,.int .i64 b,.int .i64 c,.int .i64 d,.int .i64 e,.int .i64 W,.int .i64 H,x,r,y] 44)).alloc (.cells #[.int .i64 T,.int .i64 Z,u] 48)) w'→World.rangeAt w' w.heap.size 0 [.slice At nt ct,.slice Ak nk ck,.int .i64 a,.int .i64 b,.int .i64 c,.int .i64 d,.int .i64 e,.int .i64 W,.int .i64 H,x,r,y]∧World.rangeAt w' (w.heap.size + 1) 0 [.int .i64 T,.int .i64 Z,u]):=Lib.hid fun w' k=>by
      have r3:=range_fresh (w.alloc (.cells #[.slice At nt ct,.slice Ak nk ck,.int .i64 a,.int .i64 b,.int .i64 c,.int .i64 d,.int .i64 e,.int .i64 W,.int .i64 H,x,r,y] 44)) [.int .i64 T,.int .i64 Z,u] 48
      rw [show (w.alloc (.cells #[.slice At nt ct,.slice Ak nk ck,.int .i64 a,.int .i64 b,.int .i64 c,.int .i64 d,.int .i64 e,.int .i64 W,.int .i64 H,x,r,y] 44)).heap.size=w.heap.size + 1 by simp] at r3
      exact ⟨range_keep (range_fresh w [.slice At nt ct,.slice Ak nk ck,.int .i64 a,.int .i64 b,.int .i64 c,.int .i64 d,.int .i64 e,.int .i64 W,.int .i64 H,x,r,y] 44) (((Kp.refl _).alloc _).trans k),range_keep r3 k⟩
  have I12:Hid ((Tryz.prog.info? 44).map (·.size)=some 12):=Lib.hid (by kernel_rfl)
  have I3:Hid ((Tryz.prog.info? 48).map (·.size)=some 3):=Lib.hid (by kernel_rfl)
  have I5:Hid ((Tryz.prog.info? 42).map (·.size)=some 5):=Lib.hid (by kernel_rfl)
  have HB:=Lib.hid hB
  have HS:=Lib.hid hS
  have HQ:=Lib.hid hq
  have CG:=Lib.hid (fun (w:World) hB hS=>sGood_any At Ak nt nk ct ck l m a b c d e W H x r y lt lr ld T Z u us w hB hS)
  have CL:Hid (∀ w,Calls Tryz.prog 47 #[.int .i64 sd,.int .i64 0,.int .i64 1] w fun e w'=>e=.returned (.bool (spB 0 1 sd))∧Kp w w'):=Lib.hid fun w=>(l1In_sp sd 0 1 w).mono fun _ _ h=>⟨h.1,h.2 ▸ Kp.refl _⟩
  cases hg:brdOk ⟨l,m,a,b,c,d,e⟩ W H lt lr ld && staOk ⟨l,m,a,b,c,d,e⟩ W H lt T Z us
  · rw [hg] at CG
    rw [Bool.false_and,Bool.false_and]
    clear hg hB hS hq hql hnq CL
    go_enter Tryz.func34,Tryz.ntmps34
    go_upto_region 1 with (fail)
    generalize ((w.alloc (.cells #[.slice At nt ct,.slice Ak nk ck,.int .i64 a,.int .i64 b,.int .i64 c,.int .i64 d,.int .i64 e,.int .i64 W,.int .i64 H,x,r,y] 44)).alloc (.cells #[.int .i64 T,.int .i64 Z,u] 48))=W0 at *
    have k0:=Kp.refl W0
    obtain ⟨s12,s3⟩:=H0.out W0 k0
    have s5:=range_part s12 7 5
    go_wp2_with (first | ((with_reducible refine load_m s12 Tryz.underlying44 ?_ ?_ ?_ ?_ ?_);exact I12.out;rfl;rfl;rfl) | ((with_reducible refine load_m s3 Tryz.underlying48 ?_ ?_ ?_ ?_ ?_);exact I3.out;rfl;rfl;rfl) | ((with_reducible refine load_m s5 Tryz.underlying42 ?_ ?_ ?_ ?_ ?_);exact I5.out;rfl;rfl;rfl))
    refine (CG.out _ (HB.out.keep (KA.trans k0)) (HS.out.keep (KA.trans k0))).mono ?_
    rintro e1 w1 ⟨rfl,q1⟩
    have k1:=k0.trans q1
    clear q1 s12 s3 s5
    obtain ⟨s12,s3⟩:=H0.out w1 k1
    have s5:=range_part s12 7 5
    go_wp2_with (first | ((with_reducible refine load_m s12 Tryz.underlying44 ?_ ?_ ?_ ?_ ?_);exact I12.out;rfl;rfl;rfl) | ((with_reducible refine load_m s3 Tryz.underlying48 ?_ ?_ ?_ ?_ ?_);exact I3.out;rfl;rfl;rfl) | ((with_reducible refine load_m s5 Tryz.underlying42 ?_ ?_ ?_ ?_ ?_);exact I5.out;rfl;rfl;rfl))
    go_ret2
    exact ListPostI.no (KA.trans k1)
  · rw [hg] at CG
    rw [Bool.true_and]
    simp only [Bool.and_eq_true] at hg
    obtain ⟨hok,hst⟩:=hg
    have CJ:=Lib.hid (fun (w:World) hq=>jSources_any At Ak nt nk ct ck l m a b c d e W H x r y lt lr ld Aq nq cq ls w hq hnq (by omega) hok)
    cases hsd0:spB 0 1 sd
    · rw [hsd0] at CL
      rw [Bool.false_and]
      clear hB hS hq hql hnq hok hst hsd0 CJ
      go_enter Tryz.func34,Tryz.ntmps34
      go_upto_region 1 with (fail)
      generalize ((w.alloc (.cells #[.slice At nt ct,.slice Ak nk ck,.int .i64 a,.int .i64 b,.int .i64 c,.int .i64 d,.int .i64 e,.int .i64 W,.int .i64 H,x,r,y] 44)).alloc (.cells #[.int .i64 T,.int .i64 Z,u] 48))=W0 at *
      have k0:=Kp.refl W0
      obtain ⟨s12,s3⟩:=H0.out W0 k0
      have s5:=range_part s12 7 5
      go_wp2_with (first | ((with_reducible refine load_m s12 Tryz.underlying44 ?_ ?_ ?_ ?_ ?_);exact I12.out;rfl;rfl;rfl) | ((with_reducible refine load_m s3 Tryz.underlying48 ?_ ?_ ?_ ?_ ?_);exact I3.out;rfl;rfl;rfl) | ((with_reducible refine load_m s5 Tryz.underlying42 ?_ ?_ ?_ ?_ ?_);exact I5.out;rfl;rfl;rfl))
      refine (CG.out _ (HB.out.keep (KA.trans k0)) (HS.out.keep (KA.trans k0))).mono ?_
      rintro e1 w1 ⟨rfl,q1⟩
      have k1:=k0.trans q1
      clear q1 s12 s3 s5
      obtain ⟨s12,s3⟩:=H0.out w1 k1
      have s5:=range_part s12 7 5
      go_wp2_with (first | ((with_reducible refine load_m s12 Tryz.underlying44 ?_ ?_ ?_ ?_ ?_);exact I12.out;rfl;rfl;rfl) | ((with_reducible refine load_m s3 Tryz.underlying48 ?_ ?_ ?_ ?_ ?_);exact I3.out;rfl;rfl;rfl) | ((with_reducible refine load_m s5 Tryz.underlying42 ?_ ?_ ?_ ?_ ?_);exact I5.out;rfl;rfl;rfl))
      refine (CL.out _).mono ?_
      rintro e2 w2 ⟨rfl,q2⟩
      have k2:=k1.trans q2
      clear k1 q2 s12 s3 s5
      obtain ⟨s12,s3⟩:=H0.out w2 k2
      have s5:=range_part s12 7 5
      go_wp2_with (first | ((with_reducible refine load_m s12 Tryz.underlying44 ?_ ?_ ?_ ?_ ?_);exact I12.out;rfl;rfl;rfl) | ((with_reducible refine load_m s3 Tryz.underlying48 ?_ ?_ ?_ ?_ ?_);exact I3.out;rfl;rfl;rfl) | ((with_reducible refine load_m s5 Tryz.underlying42 ?_ ?_ ?_ ?_ ?_);exact I5.out;rfl;rfl;rfl))
      go_ret2
      exact ListPostI.no (KA.trans k2)
    · rw [hsd0] at CL
      rw [Bool.true_and]
      cases hsr:srcOk W H ls
      · rw [hsr] at CJ
        clear hB hS hq hql hnq hok hst hsd0 hsr
        go_enter Tryz.func34,Tryz.ntmps34
        go_upto_region 1 with (fail)
        generalize ((w.alloc (.cells #[.slice At nt ct,.slice Ak nk ck,.int .i64 a,.int .i64 b,.int .i64 c,.int .i64 d,.int .i64 e,.int .i64 W,.int .i64 H,x,r,y] 44)).alloc (.cells #[.int .i64 T,.int .i64 Z,u] 48))=W0 at *
        have k0:=Kp.refl W0
        obtain ⟨s12,s3⟩:=H0.out W0 k0
        have s5:=range_part s12 7 5
        go_wp2_with (first | ((with_reducible refine load_m s12 Tryz.underlying44 ?_ ?_ ?_ ?_ ?_);exact I12.out;rfl;rfl;rfl) | ((with_reducible refine load_m s3 Tryz.underlying48 ?_ ?_ ?_ ?_ ?_);exact I3.out;rfl;rfl;rfl) | ((with_reducible refine load_m s5 Tryz.underlying42 ?_ ?_ ?_ ?_ ?_);exact I5.out;rfl;rfl;rfl))
        refine (CG.out _ (HB.out.keep (KA.trans k0)) (HS.out.keep (KA.trans k0))).mono ?_
        rintro e1 w1 ⟨rfl,q1⟩
        have k1:=k0.trans q1
        clear q1 s12 s3 s5
        obtain ⟨s12,s3⟩:=H0.out w1 k1
        have s5:=range_part s12 7 5
        go_wp2_with (first | ((with_reducible refine load_m s12 Tryz.underlying44 ?_ ?_ ?_ ?_ ?_);exact I12.out;rfl;rfl;rfl) | ((with_reducible refine load_m s3 Tryz.underlying48 ?_ ?_ ?_ ?_ ?_);exact I3.out;rfl;rfl;rfl) | ((with_reducible refine load_m s5 Tryz.underlying42 ?_ ?_ ?_ ?_ ?_);exact I5.out;rfl;rfl;rfl))
        refine (CL.out _).mono ?_
        rintro e2 w2 ⟨rfl,q2⟩
        have k2:=k1.trans q2
        clear k1 q2 s12 s3 s5
        obtain ⟨s12,s3⟩:=H0.out w2 k2
        have s5:=range_part s12 7 5
        go_wp2_with (first | ((with_reducible refine load_m s12 Tryz.underlying44 ?_ ?_ ?_ ?_ ?_);exact I12.out;rfl;rfl;rfl) | ((with_reducible refine load_m s3 Tryz.underlying48 ?_ ?_ ?_ ?_ ?_);exact I3.out;rfl;rfl;rfl) | ((with_reducible refine load_m s5 Tryz.underlying42 ?_ ?_ ?_ ?_ ?_);exact I5.out;rfl;rfl;rfl))
        refine (CJ.out _ (HQ.out.keep (KA.trans k2))).mono ?_
        rintro e3 w3 ⟨rfl,q3⟩
        have k3:=k2.trans q3
        clear k2 q3 s12 s3 s5
        obtain ⟨s12,s3⟩:=H0.out w3 k3
        have s5:=range_part s12 7 5
        go_wp2_with (first | ((with_reducible refine load_m s12 Tryz.underlying44 ?_ ?_ ?_ ?_ ?_);exact I12.out;rfl;rfl;rfl) | ((with_reducible refine load_m s3 Tryz.underlying48 ?_ ?_ ?_ ?_ ?_);exact I3.out;rfl;rfl;rfl) | ((with_reducible refine load_m s5 Tryz.underlying42 ?_ ?_ ?_ ?_ ?_);exact I5.out;rfl;rfl;rfl))
        go_ret2
        exact ListPostI.no (KA.trans k3)
      · rw [hsr] at CJ
        obtain ⟨p1,p2,p3,p4⟩:=mapOk_side (brdOk_map hok)
        have hlen:=mapOk_len (brdOk_map hok)
        have CSO:=Lib.hid (fun (w:World) hS=>sOf_any T Z u us sd w hS (staOk_parts hst).2.1)
        have hun:∀ z ∈ us,(z.s=0 ∨ z.s=1)∧(∃ k:Nat,z.k=k∧k < m.length)∧(z.a=-1 ∨ (0 ≤ z.a∧z.a < lt.length)):=fun z hz=>by
          have hu:=(staOk_parts hst).2.2.1 z hz
          obtain ⟨j,_,h5,h6',_,_⟩:=uniOk_kind hu
          refine ⟨(uniOk_side hu).1,⟨j,h5,h6'⟩,?_⟩
          by_cases ha:z.a=-1
          · exact .inl ha
          · obtain ⟨g1,g2⟩:=onI_true (uniOk_on hu ha)
            exact .inr ⟨g1,by omega⟩
        have HEND:Hid ((unL (ofSide0 sd) us us.length).filter (fun i=>supU l m lt lr ld W us H d ls (unN us i))=unL (fun z=>decide (z.s=sd) && supU l m lt lr ld W us H d ls z) us us.length):=Lib.hid (by
          rw [unL_filter (G:=fun z=>supU l m lt lr ld W us H d ls z) us.length (Nat.le_refl _)]
          refine unL_cong (fun z hz=>?_) _
          have h7:=(hun z hz).2.2
          unfold ofSide0 supU
          by_cases ha:z.a=-1
          · simp [ha]
          · have h0:0 ≤ z.a:=by omega
            simp [ha,h0])
        have CI:Hid (∀ xx ∈ unL (ofSide0 sd) us us.length,∃ k0:Nat,xx=k0∧∀ w,BrdAt w At Ak nt nk l m x r y lt lr ld→StaAt w u us→RdI w (.slice Aq nq cq) ls→Calls Tryz.prog 70 #[bv (.slice At nt ct) (.slice Ak nk ck) a b c d e W H x r y,sv T Z u,.int .i64 xx,.slice Aq nq cq] w fun e' w'=>e'=.returned (.bool ((fun i=>supU l m lt lr ld W us H d ls (unN us i)) xx))∧Kp w w'):=Lib.hid fun xx hx=>by
          obtain ⟨k0,z,_,rfl,hk1,_⟩:=unL_mem hx
          obtain ⟨h1,⟨k,h2,h3⟩,h4⟩:=hun z (List.mem_of_getElem? hk1)
          refine ⟨k0,rfl,fun w hB hS hq=>?_⟩
          obtain ⟨zs,zk,za,zt⟩:=z
          simp only at h1 h2 h4
          subst h2
          have h:=jIn_any At Ak nt nk ct ck l m a b c d e W H x r y lt lr ld T Z u us k0 k zs za zt ls w hB hS hok hst hk1 h3 h1 h4 (.slice Aq nq cq) hq hsr
          have e:(fun i=>supU l m lt lr ld W us H d ls (unN us i)) (k0:Int)=supU l m lt lr ld W us H d ls ⟨zs,(k:Int),za,zt⟩:=by
            show supU l m lt lr ld W us H d ls (unN us (k0:Int))=_
            unfold unN
            simp [hk1]
          rw [e]
          exact h
        have hKM:(unL (ofSide0 sd) us us.length).length ≤ us.length:=unL_len _ _ _
        have hu12:=(staOk_parts hst).2.1
        rw [← HEND.out]
        clear HEND hun
        generalize (fun i=>supU l m lt lr ld W us H d ls (unN us i))=G at *
        generalize unL (ofSide0 sd) us us.length=KL at *
        generalize hKL:KL.length=M at *
        have HKL:=Lib.hid hKL
        obtain ⟨j0,hj0,hz0,hs0,hb0⟩:=info_parts infoInt
        have hM:M ≤ 100:=by omega
        clear hB hS hq hql hnq hok hst hsd0 hsr p1 p2 p3 p4 hlen hKM hu12
        go_enter Tryz.func34,Tryz.ntmps34
        go_upto_region 1 with (fail)
        generalize ((w.alloc (.cells #[.slice At nt ct,.slice Ak nk ck,.int .i64 a,.int .i64 b,.int .i64 c,.int .i64 d,.int .i64 e,.int .i64 W,.int .i64 H,x,r,y] 44)).alloc (.cells #[.int .i64 T,.int .i64 Z,u] 48))=W0 at *
        have k0:=Kp.refl W0
        obtain ⟨s12,s3⟩:=H0.out W0 k0
        have s5:=range_part s12 7 5
        go_wp2_with (first | ((with_reducible refine load_m s12 Tryz.underlying44 ?_ ?_ ?_ ?_ ?_);exact I12.out;rfl;rfl;rfl) | ((with_reducible refine load_m s3 Tryz.underlying48 ?_ ?_ ?_ ?_ ?_);exact I3.out;rfl;rfl;rfl) | ((with_reducible refine load_m s5 Tryz.underlying42 ?_ ?_ ?_ ?_ ?_);exact I5.out;rfl;rfl;rfl))
        refine (CG.out _ (HB.out.keep (KA.trans k0)) (HS.out.keep (KA.trans k0))).mono ?_
        rintro e1 w1 ⟨rfl,q1⟩
        have k1:=k0.trans q1
        clear q1 s12 s3 s5
        obtain ⟨s12,s3⟩:=H0.out w1 k1
        have s5:=range_part s12 7 5
        go_wp2_with (first | ((with_reducible refine load_m s12 Tryz.underlying44 ?_ ?_ ?_ ?_ ?_);exact I12.out;rfl;rfl;rfl) | ((with_reducible refine load_m s3 Tryz.underlying48 ?_ ?_ ?_ ?_ ?_);exact I3.out;rfl;rfl;rfl) | ((with_reducible refine load_m s5 Tryz.underlying42 ?_ ?_ ?_ ?_ ?_);exact I5.out;rfl;rfl;rfl))
        refine (CL.out _).mono ?_
        rintro e2 w2 ⟨rfl,q2⟩
        have k2:=k1.trans q2
        clear k1 q2 s12 s3 s5
        obtain ⟨s12,s3⟩:=H0.out w2 k2
        have s5:=range_part s12 7 5
        go_wp2_with (first | ((with_reducible refine load_m s12 Tryz.underlying44 ?_ ?_ ?_ ?_ ?_);exact I12.out;rfl;rfl;rfl) | ((with_reducible refine load_m s3 Tryz.underlying48 ?_ ?_ ?_ ?_ ?_);exact I3.out;rfl;rfl;rfl) | ((with_reducible refine load_m s5 Tryz.underlying42 ?_ ?_ ?_ ?_ ?_);exact I5.out;rfl;rfl;rfl))
        refine (CJ.out _ (HQ.out.keep (KA.trans k2))).mono ?_
        rintro e3 w3 ⟨rfl,q3⟩
        have k3:=k2.trans q3
        clear k2 q3 s12 s3 s5
        obtain ⟨s12,s3⟩:=H0.out w3 k3
        have s5:=range_part s12 7 5
        go_wp2_with (first | ((with_reducible refine load_m s12 Tryz.underlying44 ?_ ?_ ?_ ?_ ?_);exact I12.out;rfl;rfl;rfl) | ((with_reducible refine load_m s3 Tryz.underlying48 ?_ ?_ ?_ ?_ ?_);exact I3.out;rfl;rfl;rfl) | ((with_reducible refine load_m s5 Tryz.underlying42 ?_ ?_ ?_ ?_ ?_);exact I5.out;rfl;rfl;rfl))
        refine (CSO.out _ (HS.out.keep (KA.trans k3))).mono ?_
        rintro e4 w4 ⟨v4,rfl,o4,q4⟩
        have k4:=k3.trans q4
        have K4:=KA.trans k4
        obtain ⟨A4,c4,hv4⟩:=o4.slice
        have HK:=Lib.hid o4.rd
        clear o4 q4 s12 s3 s5 k3
        subst hv4
        rw [hKL] at HK
        go_wp2_with fail
        go_loopw [10,12,32] (fun v _ i wx=>∃ (V:Value) (q:Nat),V=v∧q ≤ M∧i=.int .i64 q∧Hid (OwnI wx w4.heap.size v ((KL.take q).filter G))∧Kp w4 wx) (fun _ _ i _=>M - (intOf i).toNat)
        case atStart=>exact ⟨_,0,rfl,by omega,rfl,Lib.hid (by simp only [List.take_zero,List.filter_nil];exact OwnI.nil _ _),Kp.refl _⟩
        case round =>
          obtain ⟨V,q,hV,hqn,rfl,HO,kr⟩:=hrel
          subst hV
          have kR:=k4.trans kr
          obtain ⟨s12,s3⟩:=H0.out wr kR
          have s5:=range_part s12 7 5
          by_cases hlt:q < M
          · have hlt':(q:Int) < M:=by omega
            obtain ⟨A5,c5,e5,hcell⟩:=HK.out.keep kr
            obtain ⟨rfl,rfl⟩:A4=A5∧c4=c5:=by
              simp only [Value.slice.injEq] at e5
              exact ⟨e5.1,e5.2.2⟩
            obtain ⟨g4,o4,rfl,hcl⟩:=hcell (by rw [HKL.out];omega)
            obtain ⟨x0,hx0⟩:∃ z,KL[q]?=some z:=⟨KL[q]'(by have:=HKL.out;omega),List.getElem?_eq_getElem _⟩
            have a0:=hcl q _ hx0
            obtain ⟨k0,rfl,hci⟩:=CI.out x0 (List.mem_of_getElem? hx0)
            have CQ:=Lib.hid hci
            have HTK:Hid ((KL.take (q + 1)).filter G=(KL.take q).filter G ++ (if G (k0:Int)=true then [(k0:Int)] else [])):=Lib.hid (by
              rw [List.take_add_one,hx0,List.filter_append]
              congr 1
              cases hG:G (k0:Int) <;> simp [hG])
            have hln:Hid (((KL.take q).filter G).length ≤ 100):=Lib.hid (by
              have h1:=List.length_filter_le G (KL.take q)
              have h2:(KL.take q).length ≤ q:=by rw [List.length_take];omega
              omega)
            clear hcell hcl hx0 e5 hci
            cases hG:G (k0:Int)
            · rw [hG] at CQ HTK
              rw [if_neg Bool.false_ne_true,List.append_nil] at HTK
              clear hG
              go_wp2_with (first | ((with_reducible refine load_m s12 Tryz.underlying44 ?_ ?_ ?_ ?_ ?_);exact I12.out;rfl;rfl;rfl) | ((with_reducible refine load_m s3 Tryz.underlying48 ?_ ?_ ?_ ?_ ?_);exact I3.out;rfl;rfl;rfl) | ((with_reducible refine load_m s5 Tryz.underlying42 ?_ ?_ ?_ ?_ ?_);exact I5.out;rfl;rfl;rfl))
              refine (CQ.out _ (HB.out.keep (KA.trans kR)) (HS.out.keep (KA.trans kR)) (HQ.out.keep (KA.trans kR))).mono ?_
              rintro e6 w6 ⟨rfl,q6⟩
              have HO6:=Lib.hid (HO.out.keep q6)
              clear HO
              go_wp2_with fail
              go_roundw
              case rel=>exact ⟨_,q + 1,rfl,by omega,by go_num,by rw [HTK.out];exact HO6,kr.trans q6⟩
              case measure=>simp [intOf];omega
            · rw [hG] at CQ HTK
              rw [if_pos rfl] at HTK
              clear hG
              go_wp2_with (first | ((with_reducible refine load_m s12 Tryz.underlying44 ?_ ?_ ?_ ?_ ?_);exact I12.out;rfl;rfl;rfl) | ((with_reducible refine load_m s3 Tryz.underlying48 ?_ ?_ ?_ ?_ ?_);exact I3.out;rfl;rfl;rfl) | ((with_reducible refine load_m s5 Tryz.underlying42 ?_ ?_ ?_ ?_ ?_);exact I5.out;rfl;rfl;rfl))
              refine (CQ.out _ (HB.out.keep (KA.trans kR)) (HS.out.keep (KA.trans kR)) (HQ.out.keep (KA.trans kR))).mono ?_
              rintro e6 w6 ⟨rfl,q6⟩
              have HO6:=Lib.hid (HO.out.keep q6)
              have k60:=kr.trans q6
              clear HO s12 s3 s5
              go_wp2_with (at_builtin;refine wpList_append_own_at _ rfl (.tmp 41) (.tmp 43) 26 rfl w4.heap.size 3 j0 (.int .i64 0) 1 8 Tryz.underlying26 hj0 hz0 hs0 hb0 rfl (by decide) _ ((KL.take q).filter G).length (cellsI ((KL.take q).filter G)) rfl (World.ownsRow.alloc HO6.out _) ⟨w6.heap.size,0,none⟩ 1 1 [.int .i64 (k0:Int)] rfl rfl (one_cell _ _ _) (by simp [Value.oneCell']) (by have:=hln.out;simp only [maxLen];omega) (by have:=hln.out;omega) (by have:=k60.size;simp;omega) ?_;intro v' w3 hown2 hgrow2 hnil2 hat2;clear hnil2 hat2;have K5:Kp w4 w3:=(k60.alloc _).grown hgrow2 (fun k e=>(World.ownsRow.lt HO6.out k e).1);have O3:=Lib.hid (OwnI.snoc (x:=(k0:Int)) hown2);clear hown2 hgrow2)
              go_roundw
              case rel=>exact ⟨_,q + 1,rfl,by omega,by go_num,by rw [HTK.out];exact O3,K5⟩
              case measure=>simp [intOf];omega
          · obtain rfl:M=q:=by omega
            have HO9:Hid (OwnI wr w4.heap.size V (KL.filter G)):=Lib.hid (by
              have h:=HO.out
              rw [List.take_of_length_le (by rw [HKL.out];omega)] at h
              exact h)
            go_wp2_with fail
            go_ret2
            exact ⟨_,rfl,HO9.out.base (b:=w.heap.size) K4.size,K4.trans kr⟩
end Go.Proofs.YtgefinicjphmpaaGreatDoor
