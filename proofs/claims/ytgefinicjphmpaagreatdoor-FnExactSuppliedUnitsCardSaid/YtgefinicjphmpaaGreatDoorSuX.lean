import Derived.Deep.Cut
import Derived.Deep.RegionHeld3
import Derived.Test.YtgefinicjphmpaaGreatDoorSuV
namespace Go.Proofs.YtgefinicjphmpaaGreatDoor
open Go.RowKit
theorem results_cells_tmp {fn:Func} {p q u:Tmp} {ty tz:TypeId} (h:fn.results=#[.cell p ty,.cell q tz,.tmp u]) (tmps:Array Value) (P:Program) (w:World) (a b:Addr) (v z:Value) (hp:tmps.getD p undef=.pointer (some a)) (hq:tmps.getD q undef=.pointer (some b)) (hv:(loadVar ty a).run P w=.ok v w) (hz:(loadVar tz b).run P w=.ok z w) :
    (results fn tmps).run P w=.ok (.tuple #[v,z,tmps.getD u undef]) w:=by
  have hp':tmps[p]?.getD undef=.pointer (some a):=by simpa using hp
  have hq':tmps[q]?.getD undef=.pointer (some b):=by simpa using hq
  simp only [results,h]
  simp [Sem.run_bind,asAddr,hp',hq',hv,hz]
theorem fact4 {w w':World} {lb ls lz l4:List Value} {T1 T2 T3 T4:TypeId} (k:Kp ((((w.alloc (.cells lb.toArray T1)).alloc (.cells ls.toArray T2)).alloc (.cells lz.toArray T3)).alloc (.cells l4.toArray T4)) w') :
    World.rangeAt w' w.heap.size 0 lb∧World.rangeAt w' (w.heap.size + 1) 0 ls∧World.there w' (w.heap.size + 1 + 1) 0 lz.length∧World.there w' (w.heap.size + 1 + 1 + 1) 0 l4.length:=by
  have z1:(w.alloc (.cells lb.toArray T1)).heap.size=w.heap.size + 1:=by simp
  have z2:((w.alloc (.cells lb.toArray T1)).alloc (.cells ls.toArray T2)).heap.size=w.heap.size + 1 + 1:=by simp
  have z3:(((w.alloc (.cells lb.toArray T1)).alloc (.cells ls.toArray T2)).alloc (.cells lz.toArray T3)).heap.size=w.heap.size + 1 + 1 + 1:=by simp
  have r1:=range_fresh w lb T1
  have r2:=range_fresh (w.alloc (.cells lb.toArray T1)) ls T2
  have r3:=there_fresh ((w.alloc (.cells lb.toArray T1)).alloc (.cells ls.toArray T2)) lz T3
  have r4:=there_fresh (((w.alloc (.cells lb.toArray T1)).alloc (.cells ls.toArray T2)).alloc (.cells lz.toArray T3)) l4 T4
  rw [z1] at r2
  rw [z2] at r3
  rw [z3] at r4
  exact ⟨range_keep r1 (((((Kp.refl _).alloc _).alloc _).alloc _).trans k),range_keep r2 ((((Kp.refl _).alloc _).alloc _).trans k),there_kp r3 (((Kp.refl _).alloc _).trans k),there_kp r4 k⟩
set_option maxRecDepth 100000 in
set_option maxHeartbeats 4000000 in
theorem supplierOfUnit_g (At Ak:Option Addr) (nt nk ct ck:Nat) (l:List Ter) (m:List Knd) (a b c d e W H:Int) (Ax Ar Ay:Option Addr) (nx cx nr cr ny cy:Nat) (lt lr ld:List Int) (T Z:Int) (Au:Option Addr) (N cu:Nat) (us:List Uni) (un:Int) (Aq:Option Addr) (nq cq:Nat) (ls:List Int) (w:World) (hs:Spans w) (ht:Tab w) (hu:SpU w) (hB:BrdAt w At Ak nt nk l m (.slice Ax nx cx) (.slice Ar nr cr) (.slice Ay ny cy) lt lr ld) (hS:StaAt w (.slice Au N cu) us) (hq:RdI w (.slice Aq nq cq) ls) (hql:ls.length ≤ 1048576) (hN:us.length=N) :
    Calls Tryz.prog 71 #[bv (.slice At nt ct) (.slice Ak nk ck) a b c d e W H (.slice Ax nx cx) (.slice Ar nr cr) (.slice Ay ny cy),sv T Z (.slice Au N cu),.int .i64 un,.slice Aq nq cq] w fun e' w'=>e'=.returned (.tuple #[if (inB un us.length && (((brdOk ⟨l,m,a,b,c,d,e⟩ W H lt lr ld && staOk ⟨l,m,a,b,c,d,e⟩ W H lt T Z us) && spB 0 1 (unN us un).s) && srcOk W H ls))=true then .agg #[.slice At nt ct,.slice Ak nk ck,.int .i64 a,.int .i64 b,.int .i64 c,.int .i64 d,.int .i64 e,.int .i64 W,.int .i64 H,.slice Ax nx cx,.slice Ar nr cr,.slice Ay ny cy,.int .i64 T,.int .i64 Z,.slice Au N cu,.int .i64 (unN us un).s,.slice Aq nq cq] else .agg #[.slice none 0 0,.slice none 0 0,.int .i64 0,.int .i64 0,.int .i64 0,.int .i64 0,.int .i64 0,.int .i64 0,.int .i64 0,.slice none 0 0,.slice none 0 0,.slice none 0 0,.int .i64 0,.int .i64 0,.slice none 0 0,.int .i64 0,.slice none 0 0],if (inB un us.length && (((brdOk ⟨l,m,a,b,c,d,e⟩ W H lt lr ld && staOk ⟨l,m,a,b,c,d,e⟩ W H lt T Z us) && spB 0 1 (unN us un).s) && srcOk W H ls))=true then ux (unN us un).s (unN us un).k (unN us un).a (unN us un).t else ux 0 0 0 0,.bool (inB un us.length && (((brdOk ⟨l,m,a,b,c,d,e⟩ W H lt lr ld && staOk ⟨l,m,a,b,c,d,e⟩ W H lt T Z us) && spB 0 1 (unN us un).s) && srcOk W H ls))])∧Kp w w':=by
  obtain ⟨Au',cu',eu,hrow⟩:=hS.rd
  obtain ⟨rfl,rfl⟩:Au=Au'∧cu=cu':=by
    simp only [Value.slice.injEq] at eu
    exact ⟨eu.1,eu.2.2⟩
  clear eu
  have hbN:=hS.b
  have HSP:=Lib.hid hs
  have HT:=Lib.hid ht
  have HU:=Lib.hid hu
  have HB:=Lib.hid hB
  have HS:=Lib.hid hS
  have HQ:=Lib.hid hq
  have CN:Hid (∀ w,StaAt w (.slice Au N cu) us→Calls Tryz.prog 119 #[sv T Z (.slice Au N cu),.int .i64 un] w fun e' w'=>e'=.returned (.bool (inB un N))∧Kp w w'):=Lib.hid fun w hS=>by
    have h:=isUnitNumber_any T Z (.slice Au N cu) us un w hS
    rw [hN] at h
    exact h
  have CSU:=Lib.hid (fun (sd:Int) (w:World) hs ht hu hB hS hq=>supplierOf_any At Ak nt nk ct ck l m a b c d e W H (.slice Ax nx cx) (.slice Ar nr cr) (.slice Ay ny cy) lt lr ld T Z (.slice Au N cu) us sd Aq nq cq ls w hs ht hu hB hS hq hql)
  have I12:Hid ((Tryz.prog.info? 44).map (·.size)=some 12):=Lib.hid (by kernel_rfl)
  have I3:Hid ((Tryz.prog.info? 48).map (·.size)=some 3):=Lib.hid (by kernel_rfl)
  have I17:Hid ((Tryz.prog.info? 80).map (·.size)=some 17):=Lib.hid (by kernel_rfl)
  have I4:Hid ((Tryz.prog.info? 103).map (·.size)=some 4):=Lib.hid (by kernel_rfl)
  rw [hN] at hrow hbN ⊢
  clear hs ht hu hB hS hq hql
  cases hu:inB un N
  · rw [hu] at CN
    rw [Bool.false_and,if_neg Bool.false_ne_true,if_neg Bool.false_ne_true]
    have KA:Kp w ((((w.alloc (.cells #[.slice At nt ct,.slice Ak nk ck,.int .i64 a,.int .i64 b,.int .i64 c,.int .i64 d,.int .i64 e,.int .i64 W,.int .i64 H,.slice Ax nx cx,.slice Ar nr cr,.slice Ay ny cy] 44)).alloc (.cells #[.int .i64 T,.int .i64 Z,.slice Au N cu] 48)).alloc (.cells #[.slice none 0 0,.slice none 0 0,.int .i64 0,.int .i64 0,.int .i64 0,.int .i64 0,.int .i64 0,.int .i64 0,.int .i64 0,.slice none 0 0,.slice none 0 0,.slice none 0 0,.int .i64 0,.int .i64 0,.slice none 0 0,.int .i64 0,.slice none 0 0] 80)).alloc (.cells #[.int .i64 0,.int .i64 0,.int .i64 0,.int .i64 0] 103)):=((((Kp.refl w).alloc _).alloc _).alloc _).alloc _
    have H0:Hid (∀ w',Kp ((((w.alloc (.cells #[.slice At nt ct,.slice Ak nk ck,.int .i64 a,.int .i64 b,.int .i64 c,.int .i64 d,.int .i64 e,.int .i64 W,.int .i64 H,.slice Ax nx cx,.slice Ar nr cr,.slice Ay ny cy] 44)).alloc (.cells #[.int .i64 T,.int .i64 Z,.slice Au N cu] 48)).alloc (.cells #[.slice none 0 0,.slice none 0 0,.int .i64 0,.int .i64 0,.int .i64 0,.int .i64 0,.int .i64 0,.int .i64 0,.int .i64 0,.slice none 0 0,.slice none 0 0,.slice none 0 0,.int .i64 0,.int .i64 0,.slice none 0 0,.int .i64 0,.slice none 0 0] 80)).alloc (.cells #[.int .i64 0,.int .i64 0,.int .i64 0,.int .i64 0] 103)) w'→World.rangeAt w' w.heap.size 0 [.slice At nt ct,.slice Ak nk ck,.int .i64 a,.int .i64 b,.int .i64 c,.int .i64 d,.int .i64 e,.int .i64 W,.int .i64 H,.slice Ax nx cx,.slice Ar nr cr,.slice Ay ny cy]∧World.rangeAt w' (w.heap.size + 1) 0 [.int .i64 T,.int .i64 Z,.slice Au N cu]∧World.there w' (w.heap.size + 1 + 1) 0 17∧World.there w' (w.heap.size + 1 + 1 + 1) 0 4):=Lib.hid fun w' k=>fact4 (lb:=[.slice At nt ct,.slice Ak nk ck,.int .i64 a,.int .i64 b,.int .i64 c,.int .i64 d,.int .i64 e,.int .i64 W,.int .i64 H,.slice Ax nx cx,.slice Ar nr cr,.slice Ay ny cy]) (ls:=[.int .i64 T,.int .i64 Z,.slice Au N cu]) (lz:=[.slice none 0 0,.slice none 0 0,.int .i64 0,.int .i64 0,.int .i64 0,.int .i64 0,.int .i64 0,.int .i64 0,.int .i64 0,.slice none 0 0,.slice none 0 0,.slice none 0 0,.int .i64 0,.int .i64 0,.slice none 0 0,.int .i64 0,.slice none 0 0]) (l4:=[.int .i64 0,.int .i64 0,.int .i64 0,.int .i64 0]) k
    clear CSU hu
    go_enter Tryz.func71,Tryz.ntmps71
    go_upto_region 1 with (fail)
    generalize ((((w.alloc (.cells #[.slice At nt ct,.slice Ak nk ck,.int .i64 a,.int .i64 b,.int .i64 c,.int .i64 d,.int .i64 e,.int .i64 W,.int .i64 H,.slice Ax nx cx,.slice Ar nr cr,.slice Ay ny cy] 44)).alloc (.cells #[.int .i64 T,.int .i64 Z,.slice Au N cu] 48)).alloc (.cells #[.slice none 0 0,.slice none 0 0,.int .i64 0,.int .i64 0,.int .i64 0,.int .i64 0,.int .i64 0,.int .i64 0,.int .i64 0,.slice none 0 0,.slice none 0 0,.slice none 0 0,.int .i64 0,.int .i64 0,.slice none 0 0,.int .i64 0,.slice none 0 0] 80)).alloc (.cells #[.int .i64 0,.int .i64 0,.int .i64 0,.int .i64 0] 103))=W0 at *
    have s3:=(H0.out _ (Kp.refl W0)).2.1
    go_wp2_with (first | ((with_reducible refine load_m s3 Tryz.underlying48 ?_ ?_ ?_ ?_ ?_);exact I3.out;rfl;rfl;rfl))
    refine (CN.out _ (HS.out.keep KA)).mono ?_
    rintro e1 w1 ⟨rfl,k1⟩
    clear s3
    have t17:w1.there (w.heap.size + 1 + 1) 0 (#[.slice none 0 0,.slice none 0 0,.int .i64 0,.int .i64 0,.int .i64 0,.int .i64 0,.int .i64 0,.int .i64 0,.int .i64 0,.slice none 0 0,.slice none 0 0,.slice none 0 0,.int .i64 0,.int .i64 0,.slice none 0 0,.int .i64 0,.slice none 0 0]:Array Value).size:=(H0.out _ k1).2.2.1
    obtain ⟨W9,hW9⟩:∃ W9,W9=w1.setCells (w.heap.size + 1 + 1) 0 (#[.slice none 0 0,.slice none 0 0,.int .i64 0,.int .i64 0,.int .i64 0,.int .i64 0,.int .i64 0,.int .i64 0,.int .i64 0,.slice none 0 0,.slice none 0 0,.slice none 0 0,.int .i64 0,.int .i64 0,.slice none 0 0,.int .i64 0,.slice none 0 0]:Array Value).toList:=⟨_,rfl⟩
    have t4:W9.there (w.heap.size + 1 + 1 + 1) 0 (#[.int .i64 0,.int .i64 0,.int .i64 0,.int .i64 0]:Array Value).size:=by
      rw [hW9]
      exact World.there_setCells (H0.out _ k1).2.2.2 _ _ _
    obtain ⟨W10,hW10⟩:∃ W10,W10=W9.setCells (w.heap.size + 1 + 1 + 1) 0 (#[.int .i64 0,.int .i64 0,.int .i64 0,.int .i64 0]:Array Value).toList:=⟨_,rfl⟩
    have r9:World.rangeAt W10 (w.heap.size + 1 + 1) 0 [.slice none 0 0,.slice none 0 0,.int .i64 0,.int .i64 0,.int .i64 0,.int .i64 0,.int .i64 0,.int .i64 0,.int .i64 0,.slice none 0 0,.slice none 0 0,.slice none 0 0,.int .i64 0,.int .i64 0,.slice none 0 0,.int .i64 0,.slice none 0 0]:=by
      rw [hW10,hW9]
      exact World.rangeAt_setCells_apart (World.rangeAt_setCells_same _ _ _ _ t17) _ _ _ (.inl (by omega))
    have r10:World.rangeAt W10 (w.heap.size + 1 + 1 + 1) 0 [.int .i64 0,.int .i64 0,.int .i64 0,.int .i64 0]:=by
      rw [hW10]
      exact World.rangeAt_setCells_same _ _ _ _ t4
    have K10:Kp w W10:=by
      rw [hW10,hW9]
      exact kp_cells (by omega) _ _ _ (kp_cells (by omega) _ _ _ (KA.trans k1))
    have HW9:=Lib.hid hW9
    have HW10:=Lib.hid hW10
    clear hW9 hW10
    go_wp2_with (first | ((with_reducible refine store_m t17 ?_ ?_ ?_ ?_ ?_ ?_);exact I17.out;(simp [Value.oneCell']);rfl;rfl;rfl;rw [← HW9.out]) | ((with_reducible refine store_m t4 ?_ ?_ ?_ ?_ ?_ ?_);exact I4.out;(simp [Value.oneCell']);rfl;rfl;rfl;rw [← HW10.out]))
    have hl:(loadVar 80 ⟨w.heap.size + 1 + 1,0,none⟩).run Tryz.prog W10=.ok (.agg #[.slice none 0 0,.slice none 0 0,.int .i64 0,.int .i64 0,.int .i64 0,.int .i64 0,.int .i64 0,.int .i64 0,.int .i64 0,.slice none 0 0,.slice none 0 0,.slice none 0 0,.int .i64 0,.int .i64 0,.slice none 0 0,.int .i64 0,.slice none 0 0]) W10:=run_loadVar_mid W10 (w.heap.size + 1 + 1) 0 80 [.slice none 0 0,.slice none 0 0,.int .i64 0,.int .i64 0,.int .i64 0,.int .i64 0,.int .i64 0,.int .i64 0,.int .i64 0,.slice none 0 0,.slice none 0 0,.slice none 0 0,.int .i64 0,.int .i64 0,.slice none 0 0,.int .i64 0,.slice none 0 0] _ r9 Tryz.underlying80 rfl (by kernel_rfl)
    have hl2:(loadVar 103 ⟨w.heap.size + 1 + 1 + 1,0,none⟩).run Tryz.prog W10=.ok (.agg #[.int .i64 0,.int .i64 0,.int .i64 0,.int .i64 0]) W10:=run_loadVar_mid W10 (w.heap.size + 1 + 1 + 1) 0 103 [.int .i64 0,.int .i64 0,.int .i64 0,.int .i64 0] _ r10 Tryz.underlying103 rfl (by kernel_rfl)
    refine bodyPost_ret (v:=.tuple #[.agg #[.slice none 0 0,.slice none 0 0,.int .i64 0,.int .i64 0,.int .i64 0,.int .i64 0,.int .i64 0,.int .i64 0,.int .i64 0,.slice none 0 0,.slice none 0 0,.slice none 0 0,.int .i64 0,.int .i64 0,.slice none 0 0,.int .i64 0,.slice none 0 0],.agg #[.int .i64 0,.int .i64 0,.int .i64 0,.int .i64 0],.bool false]) (results_cells_tmp Tryz.results71 _ _ _ _ _ _ _ rfl rfl hl hl2) rfl ⟨rfl,K10⟩
  · rw [hu] at CN
    rw [Bool.true_and]
    obtain ⟨k0,rfl,hk0,hk1⟩:=unN_of (us:=us) (n:=un) (by rw [hN];exact hu)
    rw [hN] at hk0
    have hk0':(k0:Int) < N:=by omega
    obtain ⟨gu,ou,rfl,hc⟩:=hrow (by omega)
    have hcu:=hc k0 _ hk1
    generalize unN us (k0:Int)=z at hcu CSU ⊢
    obtain ⟨us_,uk,ua,ut⟩:=z
    have UC:Hid (∀ w',Kp w w'→w'.cell? ⟨gu,ou + k0 * 4,none⟩=some (.int .i64 us_)∧w'.cell? ⟨gu,ou + k0 * 4 + 1,none⟩=some (.int .i64 uk)∧w'.cell? ⟨gu,ou + k0 * 4 + 2,none⟩=some (.int .i64 ua)∧w'.cell? ⟨gu,ou + k0 * 4 + 3,none⟩=some (.int .i64 ut)):=Lib.hid fun w' k=>hcu.keep k
    have KA:Kp w ((((w.alloc (.cells #[.slice At nt ct,.slice Ak nk ck,.int .i64 a,.int .i64 b,.int .i64 c,.int .i64 d,.int .i64 e,.int .i64 W,.int .i64 H,.slice Ax nx cx,.slice Ar nr cr,.slice Ay ny cy] 44)).alloc (.cells #[.int .i64 T,.int .i64 Z,.slice (some ⟨gu,ou,none⟩) N cu] 48)).alloc (.cells #[.slice none 0 0,.slice none 0 0,.int .i64 0,.int .i64 0,.int .i64 0,.int .i64 0,.int .i64 0,.int .i64 0,.int .i64 0,.slice none 0 0,.slice none 0 0,.slice none 0 0,.int .i64 0,.int .i64 0,.slice none 0 0,.int .i64 0,.slice none 0 0] 80)).alloc (.cells #[.int .i64 0,.int .i64 0,.int .i64 0,.int .i64 0] 103)):=((((Kp.refl w).alloc _).alloc _).alloc _).alloc _
    have HW0:Hid (((((w.alloc (.cells #[.slice At nt ct,.slice Ak nk ck,.int .i64 a,.int .i64 b,.int .i64 c,.int .i64 d,.int .i64 e,.int .i64 W,.int .i64 H,.slice Ax nx cx,.slice Ar nr cr,.slice Ay ny cy] 44)).alloc (.cells #[.int .i64 T,.int .i64 Z,.slice (some ⟨gu,ou,none⟩) N cu] 48)).alloc (.cells #[.slice none 0 0,.slice none 0 0,.int .i64 0,.int .i64 0,.int .i64 0,.int .i64 0,.int .i64 0,.int .i64 0,.int .i64 0,.slice none 0 0,.slice none 0 0,.slice none 0 0,.int .i64 0,.int .i64 0,.slice none 0 0,.int .i64 0,.slice none 0 0] 80)).alloc (.cells #[.int .i64 0,.int .i64 0,.int .i64 0,.int .i64 0] 103)).heap.size=w.heap.size + 4):=Lib.hid (by simp)
    have H0:Hid (∀ w',Kp ((((w.alloc (.cells #[.slice At nt ct,.slice Ak nk ck,.int .i64 a,.int .i64 b,.int .i64 c,.int .i64 d,.int .i64 e,.int .i64 W,.int .i64 H,.slice Ax nx cx,.slice Ar nr cr,.slice Ay ny cy] 44)).alloc (.cells #[.int .i64 T,.int .i64 Z,.slice (some ⟨gu,ou,none⟩) N cu] 48)).alloc (.cells #[.slice none 0 0,.slice none 0 0,.int .i64 0,.int .i64 0,.int .i64 0,.int .i64 0,.int .i64 0,.int .i64 0,.int .i64 0,.slice none 0 0,.slice none 0 0,.slice none 0 0,.int .i64 0,.int .i64 0,.slice none 0 0,.int .i64 0,.slice none 0 0] 80)).alloc (.cells #[.int .i64 0,.int .i64 0,.int .i64 0,.int .i64 0] 103)) w'→World.rangeAt w' w.heap.size 0 [.slice At nt ct,.slice Ak nk ck,.int .i64 a,.int .i64 b,.int .i64 c,.int .i64 d,.int .i64 e,.int .i64 W,.int .i64 H,.slice Ax nx cx,.slice Ar nr cr,.slice Ay ny cy]∧World.rangeAt w' (w.heap.size + 1) 0 [.int .i64 T,.int .i64 Z,.slice (some ⟨gu,ou,none⟩) N cu]∧World.there w' (w.heap.size + 1 + 1) 0 17∧World.there w' (w.heap.size + 1 + 1 + 1) 0 4):=Lib.hid fun w' k=>fact4 (lb:=[.slice At nt ct,.slice Ak nk ck,.int .i64 a,.int .i64 b,.int .i64 c,.int .i64 d,.int .i64 e,.int .i64 W,.int .i64 H,.slice Ax nx cx,.slice Ar nr cr,.slice Ay ny cy]) (ls:=[.int .i64 T,.int .i64 Z,.slice (some ⟨gu,ou,none⟩) N cu]) (lz:=[.slice none 0 0,.slice none 0 0,.int .i64 0,.int .i64 0,.int .i64 0,.int .i64 0,.int .i64 0,.int .i64 0,.int .i64 0,.slice none 0 0,.slice none 0 0,.slice none 0 0,.int .i64 0,.int .i64 0,.slice none 0 0,.int .i64 0,.slice none 0 0]) (l4:=[.int .i64 0,.int .i64 0,.int .i64 0,.int .i64 0]) k
    have CSO:=Lib.hid (CSU.out us_)
    simp only
    cases hok:((brdOk ⟨l,m,a,b,c,d,e⟩ W H lt lr ld && staOk ⟨l,m,a,b,c,d,e⟩ W H lt T Z us) && spB 0 1 us_) && srcOk W H ls
    · rw [hok] at CSO
      rw [if_neg Bool.false_ne_true,if_neg Bool.false_ne_true]
      rw [if_neg Bool.false_ne_true] at CSO
      clear CSU hc hcu hk1 hok hu hrow
      go_enter Tryz.func71,Tryz.ntmps71
      go_upto_region 1 with (fail)
      generalize ((((w.alloc (.cells #[.slice At nt ct,.slice Ak nk ck,.int .i64 a,.int .i64 b,.int .i64 c,.int .i64 d,.int .i64 e,.int .i64 W,.int .i64 H,.slice Ax nx cx,.slice Ar nr cr,.slice Ay ny cy] 44)).alloc (.cells #[.int .i64 T,.int .i64 Z,.slice (some ⟨gu,ou,none⟩) N cu] 48)).alloc (.cells #[.slice none 0 0,.slice none 0 0,.int .i64 0,.int .i64 0,.int .i64 0,.int .i64 0,.int .i64 0,.int .i64 0,.int .i64 0,.slice none 0 0,.slice none 0 0,.slice none 0 0,.int .i64 0,.int .i64 0,.slice none 0 0,.int .i64 0,.slice none 0 0] 80)).alloc (.cells #[.int .i64 0,.int .i64 0,.int .i64 0,.int .i64 0] 103))=W0 at *
      have s3:=(H0.out _ (Kp.refl W0)).2.1
      go_wp2_with (first | ((with_reducible refine load_m s3 Tryz.underlying48 ?_ ?_ ?_ ?_ ?_);exact I3.out;rfl;rfl;rfl))
      refine (CN.out _ (HS.out.keep KA)).mono ?_
      rintro e1 w1 ⟨rfl,k1⟩
      clear s3
      go_upto_region 3 with (fail)
      have kd:=k1.drew
      refine wp_region_held_drew (S:=fun w'=>Kp W0 w') (by kernel_rfl) kd (fun hHeld=>?_)
      generalize w1.drew=V at *
      clear k1
      refine wpAnyH_take (i:=0) (oi:=⟨some 20,_,_,_,_,_⟩) (v:=.agg ([.slice At nt ct,.slice Ak nk ck,.int .i64 a,.int .i64 b,.int .i64 c,.int .i64 d,.int .i64 e,.int .i64 W,.int .i64 H,.slice Ax nx cx,.slice Ar nr cr,.slice Ay ny cy]).toArray) rfl (by kernel_rfl) (by kernel_rfl) (by kernel_rfl) (fun _ _ _ h=>h) (yieldsIf_load_mid (by rfl) 44 _ rfl (w.heap.size) 0 rfl [.slice At nt ct,.slice Ak nk ck,.int .i64 a,.int .i64 b,.int .i64 c,.int .i64 d,.int .i64 e,.int .i64 W,.int .i64 H,.slice Ax nx cx,.slice Ar nr cr,.slice Ay ny cy] _ (fun w' h=>(H0.out w' h).1) Tryz.underlying44 rfl (by kernel_rfl)) (by assumption) ?_
      try simp only [Act.put,sA,sB,sC]
      refine wpAnyH_take (i:=1) (oi:=⟨some 21,_,_,_,_,_⟩) (v:=.agg ([.int .i64 T,.int .i64 Z,.slice (some ⟨gu,ou,none⟩) N cu]).toArray) rfl (by kernel_rfl) (by kernel_rfl) (by kernel_rfl) (fun _ _ _ h=>h) (yieldsIf_load_mid (by rfl) 48 _ rfl (w.heap.size + 1) 0 rfl [.int .i64 T,.int .i64 Z,.slice (some ⟨gu,ou,none⟩) N cu] _ (fun w' h=>(H0.out w' h).2.1) Tryz.underlying48 rfl (by kernel_rfl)) (by assumption) ?_
      try simp only [Act.put,sA,sB,sC]
      refine tk 2 ⟨some 22,_,_,_,_,_⟩ ?_ rfl (by kernel_rfl) (fun _ _ _ h=>h) (by rfl) ?_ (by assumption) ?_
      rotate_left
      · intro w' hSw;obtain ⟨f0,f1,_,_⟩:=H0.out w' hSw;have f2:=range_at f1 2 _ rfl;obtain ⟨v0,v1,v2,v3⟩:=UC.out w' (KA.trans hSw);(try dsimp only at hSw);go_simp;(all_goals with_reducible rfl)
      try simp only [Act.put,sA,sB,sC]
      refine tk 3 ⟨some 23,_,_,_,_,_⟩ ?_ rfl (by kernel_rfl) (fun _ _ _ h=>h) (by rfl) ?_ (by assumption) ?_
      rotate_left
      · intro w' hSw;obtain ⟨f0,f1,_,_⟩:=H0.out w' hSw;have f2:=range_at f1 2 _ rfl;obtain ⟨v0,v1,v2,v3⟩:=UC.out w' (KA.trans hSw);(try dsimp only at hSw);go_simp;(all_goals with_reducible rfl)
      try simp only [Act.put,sA,sB,sC]
      refine tk 4 ⟨some 24,_,_,_,_,_⟩ ?_ rfl (by kernel_rfl) (fun _ _ _ h=>h) (by rfl) ?_ (by assumption) ?_
      rotate_left
      · intro w' hSw;obtain ⟨f0,f1,_,_⟩:=H0.out w' hSw;have f2:=range_at f1 2 _ rfl;obtain ⟨v0,v1,v2,v3⟩:=UC.out w' (KA.trans hSw);(try dsimp only at hSw);go_simp;(all_goals with_reducible rfl)
      try simp only [Act.put,sA,sB,sC]
      refine tk 5 ⟨some 25,_,_,_,_,_⟩ ?_ rfl (by kernel_rfl) (fun _ _ _ h=>h) (by rfl) ?_ (by assumption) ?_
      rotate_left
      · intro w' hSw;obtain ⟨f0,f1,_,_⟩:=H0.out w' hSw;have f2:=range_at f1 2 _ rfl;obtain ⟨v0,v1,v2,v3⟩:=UC.out w' (KA.trans hSw);(try dsimp only at hSw);go_simp;(all_goals with_reducible rfl)
      try simp only [Act.put,sA,sB,sC]
      refine tk 6 ⟨some 26,_,_,_,_,_⟩ ?_ rfl (by kernel_rfl) (fun _ _ _ h=>h) (by rfl) ?_ (by assumption) ?_
      rotate_left
      · intro w' hSw;obtain ⟨f0,f1,_,_⟩:=H0.out w' hSw;have f2:=range_at f1 2 _ rfl;obtain ⟨v0,v1,v2,v3⟩:=UC.out w' (KA.trans hSw);(try dsimp only at hSw);go_simp;(all_goals with_reducible rfl)
      try simp only [Act.put,sA,sB,sC]
      refine tk 7 ⟨some 27,_,_,_,_,_⟩ ?_ rfl (by kernel_rfl) (fun _ _ _ h=>h) (by rfl) ?_ (by assumption) ?_
      rotate_left
      · intro w' hSw;obtain ⟨f0,f1,_,_⟩:=H0.out w' hSw;have f2:=range_at f1 2 _ rfl;obtain ⟨v0,v1,v2,v3⟩:=UC.out w' (KA.trans hSw);(try dsimp only at hSw);go_simp;(all_goals with_reducible rfl)
      try simp only [Act.put,sA,sB,sC]
      refine tk 8 ⟨some 28,_,_,_,_,_⟩ ?_ rfl (by kernel_rfl) (fun _ _ _ h=>h) (by rfl) ?_ (by assumption) ?_
      rotate_left
      · intro w' hSw;obtain ⟨f0,f1,_,_⟩:=H0.out w' hSw;have f2:=range_at f1 2 _ rfl;obtain ⟨v0,v1,v2,v3⟩:=UC.out w' (KA.trans hSw);(try dsimp only at hSw);go_simp;(all_goals with_reducible rfl)
      try simp only [Act.put,sA,sB,sC]
      refine wpAnyH_ready (rs:=[9,13]) (by kernel_rfl) (by simp) ?_
      refine (AllReadyH.cons (o:=⟨some 29,_,_,_,_,_⟩) rfl (fun K hK=>?_) (AllReadyH.cons (o:=⟨some 11,_,_,_,_,_⟩) rfl (fun K hK=>?_) AllReadyH.nil))
      · go_simp
        refine (CSO.out _ (HSP.out.keep (KA.trans hHeld)) (HT.out.keep (KA.trans hHeld)) (HU.out.keep (KA.trans hHeld)) (HB.out.keep (KA.trans hHeld)) (HS.out.keep (KA.trans hHeld)) (HQ.out.keep (KA.trans hHeld))).mono ?_
        rintro e2 w2 ⟨rfl,q2⟩
        have k2:Kp W0 w2:=hHeld.trans q2
        clear q2 hHeld
        go_wp2_with fail
        refine hK.out _ _ k2 (fun hHeld=>?_)
        clear hK K
        try simp only [Act.put,sA,sB,sC]
        refine tk 10 ⟨some 19,_,_,_,_,_⟩ ?_ rfl (by kernel_rfl) (fun _ _ _ h=>h) (by rfl) ?_ (by assumption) ?_
        rotate_left
        · intro w' hSw;(try dsimp only at hSw);go_simp;(all_goals with_reducible rfl)
        try simp only [Act.put,sA,sB,sC]
        refine tk 11 ⟨some 30,_,_,_,_,_⟩ ?_ rfl (by kernel_rfl) (fun _ _ _ h=>h) (by rfl) ?_ (by assumption) ?_
        rotate_left
        · intro w' hSw;(try dsimp only at hSw);go_simp;(all_goals with_reducible rfl)
        try simp only [Act.put,sA,sB,sC]
        refine tk 12 ⟨some 31,_,_,_,_,_⟩ ?_ rfl (by kernel_rfl) (fun _ _ _ h=>h) (by rfl) ?_ (by assumption) ?_
        rotate_left
        · intro w' hSw;(try dsimp only at hSw);go_simp;(all_goals with_reducible rfl)
        try simp only [Act.put,sA,sB,sC]
        refine wpAnyH_ready (rs:=[13]) (by kernel_rfl) (by simp) ?_
        refine (AllReadyH.cons (o:=⟨some 11,_,_,_,_,_⟩) rfl (fun K hK=>?_) AllReadyH.nil)
        go_simp
        go_wp2_with fail
        have k3:Kp W0 (w2.alloc (.cells #[.slice none 0 0,.slice none 0 0,.int .i64 0,.int .i64 0,.int .i64 0,.int .i64 0,.int .i64 0,.int .i64 0,.int .i64 0,.slice none 0 0,.slice none 0 0,.slice none 0 0,.int .i64 0,.int .i64 0,.slice none 0 0,.int .i64 0,.slice none 0 0] 80)):=k2.alloc _
        have hbx:=k2.size
        have th:=there_fresh w2 [.slice none 0 0,.slice none 0 0,.int .i64 0,.int .i64 0,.int .i64 0,.int .i64 0,.int .i64 0,.int .i64 0,.int .i64 0,.slice none 0 0,.slice none 0 0,.slice none 0 0,.int .i64 0,.int .i64 0,.slice none 0 0,.int .i64 0,.slice none 0 0] 80
        generalize hBX:w2.heap.size=BX at *
        have HBX:=Lib.hid hBX
        clear hBX
        generalize w2.alloc (.cells #[.slice none 0 0,.slice none 0 0,.int .i64 0,.int .i64 0,.int .i64 0,.int .i64 0,.int .i64 0,.int .i64 0,.int .i64 0,.slice none 0 0,.slice none 0 0,.slice none 0 0,.int .i64 0,.int .i64 0,.slice none 0 0,.int .i64 0,.slice none 0 0] 80)=WA at *
        refine hK.out _ _ k3 (fun hHeld=>?_)
        clear hK K
        try simp only [Act.put,sA,sB,sC]
        refine wpAnyH_ready (rs:=[14]) (by kernel_rfl) (by simp) ?_
        refine (AllReadyH.cons (o:=⟨none,_,_,_,_,_⟩) rfl (fun K hK=>?_) AllReadyH.nil)
        rw [if_pos (by rfl)]
        refine wp_store_mid 80 _ _ rfl (BX) 0 #[.slice none 0 0,.slice none 0 0,.int .i64 0,.int .i64 0,.int .i64 0,.int .i64 0,.int .i64 0,.int .i64 0,.int .i64 0,.slice none 0 0,.slice none 0 0,.slice none 0 0,.int .i64 0,.int .i64 0,.slice none 0 0,.int .i64 0,.slice none 0 0] rfl rfl th (by kernel_rfl) (by simp [Value.oneCell']) ?_
        have eL:(#[.slice none 0 0,.slice none 0 0,.int .i64 0,.int .i64 0,.int .i64 0,.int .i64 0,.int .i64 0,.int .i64 0,.int .i64 0,.slice none 0 0,.slice none 0 0,.slice none 0 0,.int .i64 0,.int .i64 0,.slice none 0 0,.int .i64 0,.slice none 0 0]:Array Value).toList=[.slice none 0 0,.slice none 0 0,.int .i64 0,.int .i64 0,.int .i64 0,.int .i64 0,.int .i64 0,.int .i64 0,.int .i64 0,.slice none 0 0,.slice none 0 0,.slice none 0 0,.int .i64 0,.int .i64 0,.slice none 0 0,.int .i64 0,.slice none 0 0]:=rfl
        rw [eL]
        clear eL
        have kS:Kp W0 (WA.setCells (BX) 0 [.slice none 0 0,.slice none 0 0,.int .i64 0,.int .i64 0,.int .i64 0,.int .i64 0,.int .i64 0,.int .i64 0,.int .i64 0,.slice none 0 0,.slice none 0 0,.slice none 0 0,.int .i64 0,.int .i64 0,.slice none 0 0,.int .i64 0,.slice none 0 0]):=kp_cells hbx _ _ _ k3
        have rS:World.rangeAt (WA.setCells (BX) 0 [.slice none 0 0,.slice none 0 0,.int .i64 0,.int .i64 0,.int .i64 0,.int .i64 0,.int .i64 0,.int .i64 0,.int .i64 0,.slice none 0 0,.slice none 0 0,.slice none 0 0,.int .i64 0,.int .i64 0,.slice none 0 0,.int .i64 0,.slice none 0 0]) (BX) 0 [.slice none 0 0,.slice none 0 0,.int .i64 0,.int .i64 0,.int .i64 0,.int .i64 0,.int .i64 0,.int .i64 0,.int .i64 0,.slice none 0 0,.slice none 0 0,.slice none 0 0,.int .i64 0,.int .i64 0,.slice none 0 0,.int .i64 0,.slice none 0 0]:=World.rangeAt_setCells_same _ _ _ _ th
        generalize WA.setCells (BX) 0 [.slice none 0 0,.slice none 0 0,.int .i64 0,.int .i64 0,.int .i64 0,.int .i64 0,.int .i64 0,.int .i64 0,.int .i64 0,.slice none 0 0,.slice none 0 0,.slice none 0 0,.int .i64 0,.int .i64 0,.slice none 0 0,.int .i64 0,.slice none 0 0]=WS at *
        refine hK.out _ _ kS (fun hHeld=>?_)
        clear hK K
        try simp only [Act.put]
        refine tk 15 ⟨some 12,_,_,_,_,_⟩ ?_ rfl (by kernel_rfl) (fun _ _ _ h=>h) (by rfl) ?_ (by assumption) ?_
        rotate_left
        · intro w' hSw;(try dsimp only at hSw);go_simp;(all_goals with_reducible rfl)
        try simp only [Act.put,sA,sB,sC]
        refine wpAnyH_done (by kernel_rfl) ?_ _
        skip
        have t17:WS.there (w.heap.size + 1 + 1) 0 (#[.slice none 0 0,.slice none 0 0,.int .i64 0,.int .i64 0,.int .i64 0,.int .i64 0,.int .i64 0,.int .i64 0,.int .i64 0,.slice none 0 0,.slice none 0 0,.slice none 0 0,.int .i64 0,.int .i64 0,.slice none 0 0,.int .i64 0,.slice none 0 0]:Array Value).size:=(H0.out _ kS).2.2.1
        obtain ⟨W9,hW9⟩:∃ W9,W9=WS.setCells (w.heap.size + 1 + 1) 0 (#[.slice none 0 0,.slice none 0 0,.int .i64 0,.int .i64 0,.int .i64 0,.int .i64 0,.int .i64 0,.int .i64 0,.int .i64 0,.slice none 0 0,.slice none 0 0,.slice none 0 0,.int .i64 0,.int .i64 0,.slice none 0 0,.int .i64 0,.slice none 0 0]:Array Value).toList:=⟨_,rfl⟩
        have t4:W9.there (w.heap.size + 1 + 1 + 1) 0 (#[.int .i64 0,.int .i64 0,.int .i64 0,.int .i64 0]:Array Value).size:=by
          rw [hW9]
          exact World.there_setCells (H0.out _ kS).2.2.2 _ _ _
        obtain ⟨W10,hW10⟩:∃ W10,W10=W9.setCells (w.heap.size + 1 + 1 + 1) 0 (#[.int .i64 0,.int .i64 0,.int .i64 0,.int .i64 0]:Array Value).toList:=⟨_,rfl⟩
        have r9:World.rangeAt W10 (w.heap.size + 1 + 1) 0 [.slice none 0 0,.slice none 0 0,.int .i64 0,.int .i64 0,.int .i64 0,.int .i64 0,.int .i64 0,.int .i64 0,.int .i64 0,.slice none 0 0,.slice none 0 0,.slice none 0 0,.int .i64 0,.int .i64 0,.slice none 0 0,.int .i64 0,.slice none 0 0]:=by
          rw [hW10,hW9]
          exact World.rangeAt_setCells_apart (World.rangeAt_setCells_same _ _ _ _ t17) _ _ _ (.inl (by omega))
        have r10:World.rangeAt W10 (w.heap.size + 1 + 1 + 1) 0 [.int .i64 0,.int .i64 0,.int .i64 0,.int .i64 0]:=by
          rw [hW10]
          exact World.rangeAt_setCells_same _ _ _ _ t4
        have K10:Kp w W10:=by
          rw [hW10,hW9]
          exact kp_cells (by omega) _ _ _ (kp_cells (by omega) _ _ _ (KA.trans kS))
        have HW9:=Lib.hid hW9
        have HW10:=Lib.hid hW10
        clear hW9 hW10
        go_wp2_with (first | ((with_reducible refine store_m t17 ?_ ?_ ?_ ?_ ?_ ?_);exact I17.out;(simp [Value.oneCell']);rfl;rfl;rfl;rw [← HW9.out]) | ((with_reducible refine store_m t4 ?_ ?_ ?_ ?_ ?_ ?_);exact I4.out;(simp [Value.oneCell']);rfl;rfl;rfl;rw [← HW10.out]))
        have hl:(loadVar 80 ⟨w.heap.size + 1 + 1,0,none⟩).run Tryz.prog W10=.ok (.agg #[.slice none 0 0,.slice none 0 0,.int .i64 0,.int .i64 0,.int .i64 0,.int .i64 0,.int .i64 0,.int .i64 0,.int .i64 0,.slice none 0 0,.slice none 0 0,.slice none 0 0,.int .i64 0,.int .i64 0,.slice none 0 0,.int .i64 0,.slice none 0 0]) W10:=run_loadVar_mid W10 (w.heap.size + 1 + 1) 0 80 [.slice none 0 0,.slice none 0 0,.int .i64 0,.int .i64 0,.int .i64 0,.int .i64 0,.int .i64 0,.int .i64 0,.int .i64 0,.slice none 0 0,.slice none 0 0,.slice none 0 0,.int .i64 0,.int .i64 0,.slice none 0 0,.int .i64 0,.slice none 0 0] _ r9 Tryz.underlying80 rfl (by kernel_rfl)
        have hl2:(loadVar 103 ⟨w.heap.size + 1 + 1 + 1,0,none⟩).run Tryz.prog W10=.ok (.agg #[.int .i64 0,.int .i64 0,.int .i64 0,.int .i64 0]) W10:=run_loadVar_mid W10 (w.heap.size + 1 + 1 + 1) 0 103 [.int .i64 0,.int .i64 0,.int .i64 0,.int .i64 0] _ r10 Tryz.underlying103 rfl (by kernel_rfl)
        refine bodyPost_ret (v:=.tuple #[.agg #[.slice none 0 0,.slice none 0 0,.int .i64 0,.int .i64 0,.int .i64 0,.int .i64 0,.int .i64 0,.int .i64 0,.int .i64 0,.slice none 0 0,.slice none 0 0,.slice none 0 0,.int .i64 0,.int .i64 0,.slice none 0 0,.int .i64 0,.slice none 0 0],.agg #[.int .i64 0,.int .i64 0,.int .i64 0,.int .i64 0],.bool false]) (results_cells_tmp Tryz.results71 _ _ _ _ _ _ _ rfl rfl hl hl2) rfl ⟨rfl,K10⟩
      · go_simp
        go_wp2_with fail
        have k2:Kp W0 (V.alloc (.cells #[.slice none 0 0,.slice none 0 0,.int .i64 0,.int .i64 0,.int .i64 0,.int .i64 0,.int .i64 0,.int .i64 0,.int .i64 0,.slice none 0 0,.slice none 0 0,.slice none 0 0,.int .i64 0,.int .i64 0,.slice none 0 0,.int .i64 0,.slice none 0 0] 80)):=hHeld.alloc _
        have hbx:=hHeld.size
        have th:=there_fresh V [.slice none 0 0,.slice none 0 0,.int .i64 0,.int .i64 0,.int .i64 0,.int .i64 0,.int .i64 0,.int .i64 0,.int .i64 0,.slice none 0 0,.slice none 0 0,.slice none 0 0,.int .i64 0,.int .i64 0,.slice none 0 0,.int .i64 0,.slice none 0 0] 80
        generalize hBX:V.heap.size=BX at *
        have HBX:=Lib.hid hBX
        clear hBX hHeld
        generalize V.alloc (.cells #[.slice none 0 0,.slice none 0 0,.int .i64 0,.int .i64 0,.int .i64 0,.int .i64 0,.int .i64 0,.int .i64 0,.int .i64 0,.slice none 0 0,.slice none 0 0,.slice none 0 0,.int .i64 0,.int .i64 0,.slice none 0 0,.int .i64 0,.slice none 0 0] 80)=WA at *
        refine hK.out _ _ k2 (fun hHeld=>?_)
        clear hK K
        try simp only [Act.put,sA,sB,sC]
        refine wpAnyH_ready (rs:=[9]) (by kernel_rfl) (by simp) ?_
        refine (AllReadyH.cons (o:=⟨some 29,_,_,_,_,_⟩) rfl (fun K hK=>?_) AllReadyH.nil)
        go_simp
        refine (CSO.out _ (HSP.out.keep (KA.trans hHeld)) (HT.out.keep (KA.trans hHeld)) (HU.out.keep (KA.trans hHeld)) (HB.out.keep (KA.trans hHeld)) (HS.out.keep (KA.trans hHeld)) (HQ.out.keep (KA.trans hHeld))).mono ?_
        rintro e2 w2 ⟨rfl,q2⟩
        have k3:Kp W0 w2:=hHeld.trans q2
        have th2:=there_kp th q2
        clear q2 hHeld th
        go_wp2_with fail
        refine hK.out _ _ k3 (fun hHeld=>?_)
        clear hK K
        try simp only [Act.put,sA,sB,sC]
        refine tk 10 ⟨some 19,_,_,_,_,_⟩ ?_ rfl (by kernel_rfl) (fun _ _ _ h=>h) (by rfl) ?_ (by assumption) ?_
        rotate_left
        · intro w' hSw;(try dsimp only at hSw);go_simp;(all_goals with_reducible rfl)
        try simp only [Act.put,sA,sB,sC]
        refine tk 11 ⟨some 30,_,_,_,_,_⟩ ?_ rfl (by kernel_rfl) (fun _ _ _ h=>h) (by rfl) ?_ (by assumption) ?_
        rotate_left
        · intro w' hSw;(try dsimp only at hSw);go_simp;(all_goals with_reducible rfl)
        try simp only [Act.put,sA,sB,sC]
        refine tk 12 ⟨some 31,_,_,_,_,_⟩ ?_ rfl (by kernel_rfl) (fun _ _ _ h=>h) (by rfl) ?_ (by assumption) ?_
        rotate_left
        · intro w' hSw;(try dsimp only at hSw);go_simp;(all_goals with_reducible rfl)
        try simp only [Act.put,sA,sB,sC]
        refine wpAnyH_ready (rs:=[14]) (by kernel_rfl) (by simp) ?_
        refine (AllReadyH.cons (o:=⟨none,_,_,_,_,_⟩) rfl (fun K hK=>?_) AllReadyH.nil)
        rw [if_pos (by rfl)]
        refine wp_store_mid 80 _ _ rfl (BX) 0 #[.slice none 0 0,.slice none 0 0,.int .i64 0,.int .i64 0,.int .i64 0,.int .i64 0,.int .i64 0,.int .i64 0,.int .i64 0,.slice none 0 0,.slice none 0 0,.slice none 0 0,.int .i64 0,.int .i64 0,.slice none 0 0,.int .i64 0,.slice none 0 0] rfl rfl th2 (by kernel_rfl) (by simp [Value.oneCell']) ?_
        have eL:(#[.slice none 0 0,.slice none 0 0,.int .i64 0,.int .i64 0,.int .i64 0,.int .i64 0,.int .i64 0,.int .i64 0,.int .i64 0,.slice none 0 0,.slice none 0 0,.slice none 0 0,.int .i64 0,.int .i64 0,.slice none 0 0,.int .i64 0,.slice none 0 0]:Array Value).toList=[.slice none 0 0,.slice none 0 0,.int .i64 0,.int .i64 0,.int .i64 0,.int .i64 0,.int .i64 0,.int .i64 0,.int .i64 0,.slice none 0 0,.slice none 0 0,.slice none 0 0,.int .i64 0,.int .i64 0,.slice none 0 0,.int .i64 0,.slice none 0 0]:=rfl
        rw [eL]
        clear eL
        have kS:Kp W0 (w2.setCells (BX) 0 [.slice none 0 0,.slice none 0 0,.int .i64 0,.int .i64 0,.int .i64 0,.int .i64 0,.int .i64 0,.int .i64 0,.int .i64 0,.slice none 0 0,.slice none 0 0,.slice none 0 0,.int .i64 0,.int .i64 0,.slice none 0 0,.int .i64 0,.slice none 0 0]):=kp_cells hbx _ _ _ k3
        have rS:World.rangeAt (w2.setCells (BX) 0 [.slice none 0 0,.slice none 0 0,.int .i64 0,.int .i64 0,.int .i64 0,.int .i64 0,.int .i64 0,.int .i64 0,.int .i64 0,.slice none 0 0,.slice none 0 0,.slice none 0 0,.int .i64 0,.int .i64 0,.slice none 0 0,.int .i64 0,.slice none 0 0]) (BX) 0 [.slice none 0 0,.slice none 0 0,.int .i64 0,.int .i64 0,.int .i64 0,.int .i64 0,.int .i64 0,.int .i64 0,.int .i64 0,.slice none 0 0,.slice none 0 0,.slice none 0 0,.int .i64 0,.int .i64 0,.slice none 0 0,.int .i64 0,.slice none 0 0]:=World.rangeAt_setCells_same _ _ _ _ th2
        generalize w2.setCells (BX) 0 [.slice none 0 0,.slice none 0 0,.int .i64 0,.int .i64 0,.int .i64 0,.int .i64 0,.int .i64 0,.int .i64 0,.int .i64 0,.slice none 0 0,.slice none 0 0,.slice none 0 0,.int .i64 0,.int .i64 0,.slice none 0 0,.int .i64 0,.slice none 0 0]=WS at *
        refine hK.out _ _ kS (fun hHeld=>?_)
        clear hK K
        try simp only [Act.put]
        refine tk 15 ⟨some 12,_,_,_,_,_⟩ ?_ rfl (by kernel_rfl) (fun _ _ _ h=>h) (by rfl) ?_ (by assumption) ?_
        rotate_left
        · intro w' hSw;(try dsimp only at hSw);go_simp;(all_goals with_reducible rfl)
        try simp only [Act.put,sA,sB,sC]
        refine wpAnyH_done (by kernel_rfl) ?_ _
        skip
        have t17:WS.there (w.heap.size + 1 + 1) 0 (#[.slice none 0 0,.slice none 0 0,.int .i64 0,.int .i64 0,.int .i64 0,.int .i64 0,.int .i64 0,.int .i64 0,.int .i64 0,.slice none 0 0,.slice none 0 0,.slice none 0 0,.int .i64 0,.int .i64 0,.slice none 0 0,.int .i64 0,.slice none 0 0]:Array Value).size:=(H0.out _ kS).2.2.1
        obtain ⟨W9,hW9⟩:∃ W9,W9=WS.setCells (w.heap.size + 1 + 1) 0 (#[.slice none 0 0,.slice none 0 0,.int .i64 0,.int .i64 0,.int .i64 0,.int .i64 0,.int .i64 0,.int .i64 0,.int .i64 0,.slice none 0 0,.slice none 0 0,.slice none 0 0,.int .i64 0,.int .i64 0,.slice none 0 0,.int .i64 0,.slice none 0 0]:Array Value).toList:=⟨_,rfl⟩
        have t4:W9.there (w.heap.size + 1 + 1 + 1) 0 (#[.int .i64 0,.int .i64 0,.int .i64 0,.int .i64 0]:Array Value).size:=by
          rw [hW9]
          exact World.there_setCells (H0.out _ kS).2.2.2 _ _ _
        obtain ⟨W10,hW10⟩:∃ W10,W10=W9.setCells (w.heap.size + 1 + 1 + 1) 0 (#[.int .i64 0,.int .i64 0,.int .i64 0,.int .i64 0]:Array Value).toList:=⟨_,rfl⟩
        have r9:World.rangeAt W10 (w.heap.size + 1 + 1) 0 [.slice none 0 0,.slice none 0 0,.int .i64 0,.int .i64 0,.int .i64 0,.int .i64 0,.int .i64 0,.int .i64 0,.int .i64 0,.slice none 0 0,.slice none 0 0,.slice none 0 0,.int .i64 0,.int .i64 0,.slice none 0 0,.int .i64 0,.slice none 0 0]:=by
          rw [hW10,hW9]
          exact World.rangeAt_setCells_apart (World.rangeAt_setCells_same _ _ _ _ t17) _ _ _ (.inl (by omega))
        have r10:World.rangeAt W10 (w.heap.size + 1 + 1 + 1) 0 [.int .i64 0,.int .i64 0,.int .i64 0,.int .i64 0]:=by
          rw [hW10]
          exact World.rangeAt_setCells_same _ _ _ _ t4
        have K10:Kp w W10:=by
          rw [hW10,hW9]
          exact kp_cells (by omega) _ _ _ (kp_cells (by omega) _ _ _ (KA.trans kS))
        have HW9:=Lib.hid hW9
        have HW10:=Lib.hid hW10
        clear hW9 hW10
        go_wp2_with (first | ((with_reducible refine store_m t17 ?_ ?_ ?_ ?_ ?_ ?_);exact I17.out;(simp [Value.oneCell']);rfl;rfl;rfl;rw [← HW9.out]) | ((with_reducible refine store_m t4 ?_ ?_ ?_ ?_ ?_ ?_);exact I4.out;(simp [Value.oneCell']);rfl;rfl;rfl;rw [← HW10.out]))
        have hl:(loadVar 80 ⟨w.heap.size + 1 + 1,0,none⟩).run Tryz.prog W10=.ok (.agg #[.slice none 0 0,.slice none 0 0,.int .i64 0,.int .i64 0,.int .i64 0,.int .i64 0,.int .i64 0,.int .i64 0,.int .i64 0,.slice none 0 0,.slice none 0 0,.slice none 0 0,.int .i64 0,.int .i64 0,.slice none 0 0,.int .i64 0,.slice none 0 0]) W10:=run_loadVar_mid W10 (w.heap.size + 1 + 1) 0 80 [.slice none 0 0,.slice none 0 0,.int .i64 0,.int .i64 0,.int .i64 0,.int .i64 0,.int .i64 0,.int .i64 0,.int .i64 0,.slice none 0 0,.slice none 0 0,.slice none 0 0,.int .i64 0,.int .i64 0,.slice none 0 0,.int .i64 0,.slice none 0 0] _ r9 Tryz.underlying80 rfl (by kernel_rfl)
        have hl2:(loadVar 103 ⟨w.heap.size + 1 + 1 + 1,0,none⟩).run Tryz.prog W10=.ok (.agg #[.int .i64 0,.int .i64 0,.int .i64 0,.int .i64 0]) W10:=run_loadVar_mid W10 (w.heap.size + 1 + 1 + 1) 0 103 [.int .i64 0,.int .i64 0,.int .i64 0,.int .i64 0] _ r10 Tryz.underlying103 rfl (by kernel_rfl)
        refine bodyPost_ret (v:=.tuple #[.agg #[.slice none 0 0,.slice none 0 0,.int .i64 0,.int .i64 0,.int .i64 0,.int .i64 0,.int .i64 0,.int .i64 0,.int .i64 0,.slice none 0 0,.slice none 0 0,.slice none 0 0,.int .i64 0,.int .i64 0,.slice none 0 0,.int .i64 0,.slice none 0 0],.agg #[.int .i64 0,.int .i64 0,.int .i64 0,.int .i64 0],.bool false]) (results_cells_tmp Tryz.results71 _ _ _ _ _ _ _ rfl rfl hl hl2) rfl ⟨rfl,K10⟩
    · rw [hok] at CSO
      rw [if_pos rfl,if_pos rfl]
      rw [if_pos rfl] at CSO
      clear CSU hc hcu hk1 hok hu hrow
      go_enter Tryz.func71,Tryz.ntmps71
      go_upto_region 1 with (fail)
      generalize ((((w.alloc (.cells #[.slice At nt ct,.slice Ak nk ck,.int .i64 a,.int .i64 b,.int .i64 c,.int .i64 d,.int .i64 e,.int .i64 W,.int .i64 H,.slice Ax nx cx,.slice Ar nr cr,.slice Ay ny cy] 44)).alloc (.cells #[.int .i64 T,.int .i64 Z,.slice (some ⟨gu,ou,none⟩) N cu] 48)).alloc (.cells #[.slice none 0 0,.slice none 0 0,.int .i64 0,.int .i64 0,.int .i64 0,.int .i64 0,.int .i64 0,.int .i64 0,.int .i64 0,.slice none 0 0,.slice none 0 0,.slice none 0 0,.int .i64 0,.int .i64 0,.slice none 0 0,.int .i64 0,.slice none 0 0] 80)).alloc (.cells #[.int .i64 0,.int .i64 0,.int .i64 0,.int .i64 0] 103))=W0 at *
      have s3:=(H0.out _ (Kp.refl W0)).2.1
      go_wp2_with (first | ((with_reducible refine load_m s3 Tryz.underlying48 ?_ ?_ ?_ ?_ ?_);exact I3.out;rfl;rfl;rfl))
      refine (CN.out _ (HS.out.keep KA)).mono ?_
      rintro e1 w1 ⟨rfl,k1⟩
      clear s3
      go_upto_region 3 with (fail)
      have kd:=k1.drew
      refine wp_region_held_drew (S:=fun w'=>Kp W0 w') (by kernel_rfl) kd (fun hHeld=>?_)
      generalize w1.drew=V at *
      clear k1
      refine wpAnyH_take (i:=0) (oi:=⟨some 20,_,_,_,_,_⟩) (v:=.agg ([.slice At nt ct,.slice Ak nk ck,.int .i64 a,.int .i64 b,.int .i64 c,.int .i64 d,.int .i64 e,.int .i64 W,.int .i64 H,.slice Ax nx cx,.slice Ar nr cr,.slice Ay ny cy]).toArray) rfl (by kernel_rfl) (by kernel_rfl) (by kernel_rfl) (fun _ _ _ h=>h) (yieldsIf_load_mid (by rfl) 44 _ rfl (w.heap.size) 0 rfl [.slice At nt ct,.slice Ak nk ck,.int .i64 a,.int .i64 b,.int .i64 c,.int .i64 d,.int .i64 e,.int .i64 W,.int .i64 H,.slice Ax nx cx,.slice Ar nr cr,.slice Ay ny cy] _ (fun w' h=>(H0.out w' h).1) Tryz.underlying44 rfl (by kernel_rfl)) (by assumption) ?_
      try simp only [Act.put,sA,sB,sC]
      refine wpAnyH_take (i:=1) (oi:=⟨some 21,_,_,_,_,_⟩) (v:=.agg ([.int .i64 T,.int .i64 Z,.slice (some ⟨gu,ou,none⟩) N cu]).toArray) rfl (by kernel_rfl) (by kernel_rfl) (by kernel_rfl) (fun _ _ _ h=>h) (yieldsIf_load_mid (by rfl) 48 _ rfl (w.heap.size + 1) 0 rfl [.int .i64 T,.int .i64 Z,.slice (some ⟨gu,ou,none⟩) N cu] _ (fun w' h=>(H0.out w' h).2.1) Tryz.underlying48 rfl (by kernel_rfl)) (by assumption) ?_
      try simp only [Act.put,sA,sB,sC]
      refine tk 2 ⟨some 22,_,_,_,_,_⟩ ?_ rfl (by kernel_rfl) (fun _ _ _ h=>h) (by rfl) ?_ (by assumption) ?_
      rotate_left
      · intro w' hSw;obtain ⟨f0,f1,_,_⟩:=H0.out w' hSw;have f2:=range_at f1 2 _ rfl;obtain ⟨v0,v1,v2,v3⟩:=UC.out w' (KA.trans hSw);(try dsimp only at hSw);go_simp;(all_goals with_reducible rfl)
      try simp only [Act.put,sA,sB,sC]
      refine tk 3 ⟨some 23,_,_,_,_,_⟩ ?_ rfl (by kernel_rfl) (fun _ _ _ h=>h) (by rfl) ?_ (by assumption) ?_
      rotate_left
      · intro w' hSw;obtain ⟨f0,f1,_,_⟩:=H0.out w' hSw;have f2:=range_at f1 2 _ rfl;obtain ⟨v0,v1,v2,v3⟩:=UC.out w' (KA.trans hSw);(try dsimp only at hSw);go_simp;(all_goals with_reducible rfl)
      try simp only [Act.put,sA,sB,sC]
      refine tk 4 ⟨some 24,_,_,_,_,_⟩ ?_ rfl (by kernel_rfl) (fun _ _ _ h=>h) (by rfl) ?_ (by assumption) ?_
      rotate_left
      · intro w' hSw;obtain ⟨f0,f1,_,_⟩:=H0.out w' hSw;have f2:=range_at f1 2 _ rfl;obtain ⟨v0,v1,v2,v3⟩:=UC.out w' (KA.trans hSw);(try dsimp only at hSw);go_simp;(all_goals with_reducible rfl)
      try simp only [Act.put,sA,sB,sC]
      refine tk 5 ⟨some 25,_,_,_,_,_⟩ ?_ rfl (by kernel_rfl) (fun _ _ _ h=>h) (by rfl) ?_ (by assumption) ?_
      rotate_left
      · intro w' hSw;obtain ⟨f0,f1,_,_⟩:=H0.out w' hSw;have f2:=range_at f1 2 _ rfl;obtain ⟨v0,v1,v2,v3⟩:=UC.out w' (KA.trans hSw);(try dsimp only at hSw);go_simp;(all_goals with_reducible rfl)
      try simp only [Act.put,sA,sB,sC]
      refine tk 6 ⟨some 26,_,_,_,_,_⟩ ?_ rfl (by kernel_rfl) (fun _ _ _ h=>h) (by rfl) ?_ (by assumption) ?_
      rotate_left
      · intro w' hSw;obtain ⟨f0,f1,_,_⟩:=H0.out w' hSw;have f2:=range_at f1 2 _ rfl;obtain ⟨v0,v1,v2,v3⟩:=UC.out w' (KA.trans hSw);(try dsimp only at hSw);go_simp;(all_goals with_reducible rfl)
      try simp only [Act.put,sA,sB,sC]
      refine tk 7 ⟨some 27,_,_,_,_,_⟩ ?_ rfl (by kernel_rfl) (fun _ _ _ h=>h) (by rfl) ?_ (by assumption) ?_
      rotate_left
      · intro w' hSw;obtain ⟨f0,f1,_,_⟩:=H0.out w' hSw;have f2:=range_at f1 2 _ rfl;obtain ⟨v0,v1,v2,v3⟩:=UC.out w' (KA.trans hSw);(try dsimp only at hSw);go_simp;(all_goals with_reducible rfl)
      try simp only [Act.put,sA,sB,sC]
      refine tk 8 ⟨some 28,_,_,_,_,_⟩ ?_ rfl (by kernel_rfl) (fun _ _ _ h=>h) (by rfl) ?_ (by assumption) ?_
      rotate_left
      · intro w' hSw;obtain ⟨f0,f1,_,_⟩:=H0.out w' hSw;have f2:=range_at f1 2 _ rfl;obtain ⟨v0,v1,v2,v3⟩:=UC.out w' (KA.trans hSw);(try dsimp only at hSw);go_simp;(all_goals with_reducible rfl)
      try simp only [Act.put,sA,sB,sC]
      refine wpAnyH_ready (rs:=[9,13]) (by kernel_rfl) (by simp) ?_
      refine (AllReadyH.cons (o:=⟨some 29,_,_,_,_,_⟩) rfl (fun K hK=>?_) (AllReadyH.cons (o:=⟨some 11,_,_,_,_,_⟩) rfl (fun K hK=>?_) AllReadyH.nil))
      · go_simp
        refine (CSO.out _ (HSP.out.keep (KA.trans hHeld)) (HT.out.keep (KA.trans hHeld)) (HU.out.keep (KA.trans hHeld)) (HB.out.keep (KA.trans hHeld)) (HS.out.keep (KA.trans hHeld)) (HQ.out.keep (KA.trans hHeld))).mono ?_
        rintro e2 w2 ⟨rfl,q2⟩
        have k2:Kp W0 w2:=hHeld.trans q2
        clear q2 hHeld
        go_wp2_with fail
        refine hK.out _ _ k2 (fun hHeld=>?_)
        clear hK K
        try simp only [Act.put,sA,sB,sC]
        refine tk 10 ⟨some 19,_,_,_,_,_⟩ ?_ rfl (by kernel_rfl) (fun _ _ _ h=>h) (by rfl) ?_ (by assumption) ?_
        rotate_left
        · intro w' hSw;(try dsimp only at hSw);go_simp;(all_goals with_reducible rfl)
        try simp only [Act.put,sA,sB,sC]
        refine tk 11 ⟨some 30,_,_,_,_,_⟩ ?_ rfl (by kernel_rfl) (fun _ _ _ h=>h) (by rfl) ?_ (by assumption) ?_
        rotate_left
        · intro w' hSw;(try dsimp only at hSw);go_simp;(all_goals with_reducible rfl)
        try simp only [Act.put,sA,sB,sC]
        refine tk 12 ⟨some 31,_,_,_,_,_⟩ ?_ rfl (by kernel_rfl) (fun _ _ _ h=>h) (by rfl) ?_ (by assumption) ?_
        rotate_left
        · intro w' hSw;(try dsimp only at hSw);go_simp;(all_goals with_reducible rfl)
        try simp only [Act.put,sA,sB,sC]
        refine wpAnyH_ready (rs:=[13]) (by kernel_rfl) (by simp) ?_
        refine (AllReadyH.cons (o:=⟨some 11,_,_,_,_,_⟩) rfl (fun K hK=>?_) AllReadyH.nil)
        go_simp
        go_wp2_with fail
        have k3:Kp W0 (w2.alloc (.cells #[.slice none 0 0,.slice none 0 0,.int .i64 0,.int .i64 0,.int .i64 0,.int .i64 0,.int .i64 0,.int .i64 0,.int .i64 0,.slice none 0 0,.slice none 0 0,.slice none 0 0,.int .i64 0,.int .i64 0,.slice none 0 0,.int .i64 0,.slice none 0 0] 80)):=k2.alloc _
        have hbx:=k2.size
        have th:=there_fresh w2 [.slice none 0 0,.slice none 0 0,.int .i64 0,.int .i64 0,.int .i64 0,.int .i64 0,.int .i64 0,.int .i64 0,.int .i64 0,.slice none 0 0,.slice none 0 0,.slice none 0 0,.int .i64 0,.int .i64 0,.slice none 0 0,.int .i64 0,.slice none 0 0] 80
        generalize hBX:w2.heap.size=BX at *
        have HBX:=Lib.hid hBX
        clear hBX
        generalize w2.alloc (.cells #[.slice none 0 0,.slice none 0 0,.int .i64 0,.int .i64 0,.int .i64 0,.int .i64 0,.int .i64 0,.int .i64 0,.int .i64 0,.slice none 0 0,.slice none 0 0,.slice none 0 0,.int .i64 0,.int .i64 0,.slice none 0 0,.int .i64 0,.slice none 0 0] 80)=WA at *
        refine hK.out _ _ k3 (fun hHeld=>?_)
        clear hK K
        try simp only [Act.put,sA,sB,sC]
        refine wpAnyH_ready (rs:=[14]) (by kernel_rfl) (by simp) ?_
        refine (AllReadyH.cons (o:=⟨none,_,_,_,_,_⟩) rfl (fun K hK=>?_) AllReadyH.nil)
        rw [if_pos (by rfl)]
        refine wp_store_mid 80 _ _ rfl (BX) 0 #[.slice At nt ct,.slice Ak nk ck,.int .i64 a,.int .i64 b,.int .i64 c,.int .i64 d,.int .i64 e,.int .i64 W,.int .i64 H,.slice Ax nx cx,.slice Ar nr cr,.slice Ay ny cy,.int .i64 T,.int .i64 Z,.slice (some ⟨gu,ou,none⟩) N cu,.int .i64 us_,.slice Aq nq cq] rfl rfl th (by kernel_rfl) (by simp [Value.oneCell']) ?_
        have eL:(#[.slice At nt ct,.slice Ak nk ck,.int .i64 a,.int .i64 b,.int .i64 c,.int .i64 d,.int .i64 e,.int .i64 W,.int .i64 H,.slice Ax nx cx,.slice Ar nr cr,.slice Ay ny cy,.int .i64 T,.int .i64 Z,.slice (some ⟨gu,ou,none⟩) N cu,.int .i64 us_,.slice Aq nq cq]:Array Value).toList=[.slice At nt ct,.slice Ak nk ck,.int .i64 a,.int .i64 b,.int .i64 c,.int .i64 d,.int .i64 e,.int .i64 W,.int .i64 H,.slice Ax nx cx,.slice Ar nr cr,.slice Ay ny cy,.int .i64 T,.int .i64 Z,.slice (some ⟨gu,ou,none⟩) N cu,.int .i64 us_,.slice Aq nq cq]:=rfl
        rw [eL]
        clear eL
        have kS:Kp W0 (WA.setCells (BX) 0 [.slice At nt ct,.slice Ak nk ck,.int .i64 a,.int .i64 b,.int .i64 c,.int .i64 d,.int .i64 e,.int .i64 W,.int .i64 H,.slice Ax nx cx,.slice Ar nr cr,.slice Ay ny cy,.int .i64 T,.int .i64 Z,.slice (some ⟨gu,ou,none⟩) N cu,.int .i64 us_,.slice Aq nq cq]):=kp_cells hbx _ _ _ k3
        have rS:World.rangeAt (WA.setCells (BX) 0 [.slice At nt ct,.slice Ak nk ck,.int .i64 a,.int .i64 b,.int .i64 c,.int .i64 d,.int .i64 e,.int .i64 W,.int .i64 H,.slice Ax nx cx,.slice Ar nr cr,.slice Ay ny cy,.int .i64 T,.int .i64 Z,.slice (some ⟨gu,ou,none⟩) N cu,.int .i64 us_,.slice Aq nq cq]) (BX) 0 [.slice At nt ct,.slice Ak nk ck,.int .i64 a,.int .i64 b,.int .i64 c,.int .i64 d,.int .i64 e,.int .i64 W,.int .i64 H,.slice Ax nx cx,.slice Ar nr cr,.slice Ay ny cy,.int .i64 T,.int .i64 Z,.slice (some ⟨gu,ou,none⟩) N cu,.int .i64 us_,.slice Aq nq cq]:=World.rangeAt_setCells_same _ _ _ _ th
        generalize WA.setCells (BX) 0 [.slice At nt ct,.slice Ak nk ck,.int .i64 a,.int .i64 b,.int .i64 c,.int .i64 d,.int .i64 e,.int .i64 W,.int .i64 H,.slice Ax nx cx,.slice Ar nr cr,.slice Ay ny cy,.int .i64 T,.int .i64 Z,.slice (some ⟨gu,ou,none⟩) N cu,.int .i64 us_,.slice Aq nq cq]=WS at *
        refine hK.out _ _ kS (fun hHeld=>?_)
        clear hK K
        try simp only [Act.put]
        refine tk 15 ⟨some 12,_,_,_,_,_⟩ ?_ rfl (by kernel_rfl) (fun _ _ _ h=>h) (by rfl) ?_ (by assumption) ?_
        rotate_left
        · intro w' hSw;(try dsimp only at hSw);go_simp;(all_goals with_reducible rfl)
        try simp only [Act.put,sA,sB,sC]
        refine wpAnyH_done (by kernel_rfl) ?_ _
        go_upto_region 6 with (fail)
        have kD:=kS.drew
        have sg6:World.rangeAt WS.drew BX 0 [.slice At nt ct,.slice Ak nk ck,.int .i64 a,.int .i64 b,.int .i64 c,.int .i64 d,.int .i64 e,.int .i64 W,.int .i64 H,.slice Ax nx cx,.slice Ar nr cr,.slice Ay ny cy,.int .i64 T,.int .i64 Z,.slice (some ⟨gu,ou,none⟩) N cu,.int .i64 us_,.slice Aq nq cq]∧World.rangeAt WS.drew (w.heap.size + 1) 0 [.int .i64 T,.int .i64 Z,.slice (some ⟨gu,ou,none⟩) N cu]∧Kp w WS.drew:=⟨range_keep rS ((Kp.refl _).drew),(H0.out _ kD).2.1,KA.trans kD⟩
        have th17:=(H0.out _ kD).2.2.1
        have th4:=(H0.out _ kD).2.2.2
        refine wp_region_held_drew (S:=fun w'=>World.rangeAt w' BX 0 [.slice At nt ct,.slice Ak nk ck,.int .i64 a,.int .i64 b,.int .i64 c,.int .i64 d,.int .i64 e,.int .i64 W,.int .i64 H,.slice Ax nx cx,.slice Ar nr cr,.slice Ay ny cy,.int .i64 T,.int .i64 Z,.slice (some ⟨gu,ou,none⟩) N cu,.int .i64 us_,.slice Aq nq cq]∧World.rangeAt w' (w.heap.size + 1) 0 [.int .i64 T,.int .i64 Z,.slice (some ⟨gu,ou,none⟩) N cu]∧Kp w w') (by kernel_rfl) sg6 (fun hHeld=>?_)
        generalize WS.drew=V6 at *
        have hne:w.heap.size + 1 + 1 + 1 < BX:=by have:=HW0.out;omega
        refine wpAnyH_take (i:=0) (oi:=⟨some 36,_,_,_,_,_⟩) (v:=.agg ([.slice At nt ct,.slice Ak nk ck,.int .i64 a,.int .i64 b,.int .i64 c,.int .i64 d,.int .i64 e,.int .i64 W,.int .i64 H,.slice Ax nx cx,.slice Ar nr cr,.slice Ay ny cy,.int .i64 T,.int .i64 Z,.slice (some ⟨gu,ou,none⟩) N cu,.int .i64 us_,.slice Aq nq cq]).toArray) rfl (by kernel_rfl) (by kernel_rfl) (by kernel_rfl) (fun _ _ _ h=>h) (yieldsIf_load_mid (by rfl) 80 _ rfl (BX) 0 rfl [.slice At nt ct,.slice Ak nk ck,.int .i64 a,.int .i64 b,.int .i64 c,.int .i64 d,.int .i64 e,.int .i64 W,.int .i64 H,.slice Ax nx cx,.slice Ar nr cr,.slice Ay ny cy,.int .i64 T,.int .i64 Z,.slice (some ⟨gu,ou,none⟩) N cu,.int .i64 us_,.slice Aq nq cq] _ (fun w' h=>h.1) Tryz.underlying80 rfl (by kernel_rfl)) (by assumption) ?_
        try simp only [Act.put,sA,sB,sC]
        refine tk 1 ⟨some 37,_,_,_,_,_⟩ ?_ rfl (by kernel_rfl) (fun _ _ _ h=>h) (by rfl) ?_ (by assumption) ?_
        rotate_left
        · intro w' hSw;have f2:=range_at hSw.2.1 2 _ rfl;obtain ⟨v0,v1,v2,v3⟩:=UC.out w' hSw.2.2;(try dsimp only at hSw);go_simp;(all_goals with_reducible rfl)
        try simp only [Act.put,sA,sB,sC]
        refine tk 2 ⟨some 38,_,_,_,_,_⟩ ?_ rfl (by kernel_rfl) (fun _ _ _ h=>h) (by rfl) ?_ (by assumption) ?_
        rotate_left
        · intro w' hSw;have f2:=range_at hSw.2.1 2 _ rfl;obtain ⟨v0,v1,v2,v3⟩:=UC.out w' hSw.2.2;(try dsimp only at hSw);go_simp;(all_goals with_reducible rfl)
        try simp only [Act.put,sA,sB,sC]
        refine tk 3 ⟨some 39,_,_,_,_,_⟩ ?_ rfl (by kernel_rfl) (fun _ _ _ h=>h) (by rfl) ?_ (by assumption) ?_
        rotate_left
        · intro w' hSw;have f2:=range_at hSw.2.1 2 _ rfl;obtain ⟨v0,v1,v2,v3⟩:=UC.out w' hSw.2.2;(try dsimp only at hSw);go_simp;(all_goals with_reducible rfl)
        try simp only [Act.put,sA,sB,sC]
        refine tk 4 ⟨some 40,_,_,_,_,_⟩ ?_ rfl (by kernel_rfl) (fun _ _ _ h=>h) (by rfl) ?_ (by assumption) ?_
        rotate_left
        · intro w' hSw;have f2:=range_at hSw.2.1 2 _ rfl;obtain ⟨v0,v1,v2,v3⟩:=UC.out w' hSw.2.2;(try dsimp only at hSw);go_simp;(all_goals with_reducible rfl)
        try simp only [Act.put,sA,sB,sC]
        refine wpAnyH_take (i:=5) (oi:=⟨some 41,_,_,_,_,_⟩) (v:=.agg #[.int .i64 us_,.int .i64 uk,.int .i64 ua,.int .i64 ut]) rfl (by kernel_rfl) (by kernel_rfl) (by kernel_rfl) (fun _ _ _ h=>h) (Or.inl ⟨by rfl,?_⟩) (by assumption) ?_
        · intro w' hSw;have f2:=range_at hSw.2.1 2 _ rfl;obtain ⟨v0,v1,v2,v3⟩:=UC.out w' hSw.2.2;(try dsimp only at hSw);go_simp
        try simp only [Act.put,sA,sB,sC]
        refine wpAnyH_ready (rs:=[6]) (by kernel_rfl) (by simp) ?_
        refine (AllReadyH.cons (o:=⟨none,_,_,_,_,_⟩) rfl (fun K hK=>?_) AllReadyH.nil)
        rw [if_pos (by rfl)]
        refine wp_store_mid 80 _ _ rfl (w.heap.size + 1 + 1) 0 #[.slice At nt ct,.slice Ak nk ck,.int .i64 a,.int .i64 b,.int .i64 c,.int .i64 d,.int .i64 e,.int .i64 W,.int .i64 H,.slice Ax nx cx,.slice Ar nr cr,.slice Ay ny cy,.int .i64 T,.int .i64 Z,.slice (some ⟨gu,ou,none⟩) N cu,.int .i64 us_,.slice Aq nq cq] rfl rfl th17 (by kernel_rfl) (by simp [Value.oneCell']) ?_
        have eL:(#[.slice At nt ct,.slice Ak nk ck,.int .i64 a,.int .i64 b,.int .i64 c,.int .i64 d,.int .i64 e,.int .i64 W,.int .i64 H,.slice Ax nx cx,.slice Ar nr cr,.slice Ay ny cy,.int .i64 T,.int .i64 Z,.slice (some ⟨gu,ou,none⟩) N cu,.int .i64 us_,.slice Aq nq cq]:Array Value).toList=[.slice At nt ct,.slice Ak nk ck,.int .i64 a,.int .i64 b,.int .i64 c,.int .i64 d,.int .i64 e,.int .i64 W,.int .i64 H,.slice Ax nx cx,.slice Ar nr cr,.slice Ay ny cy,.int .i64 T,.int .i64 Z,.slice (some ⟨gu,ou,none⟩) N cu,.int .i64 us_,.slice Aq nq cq]:=rfl
        rw [eL]
        clear eL
        have sX:World.rangeAt (V6.setCells (w.heap.size + 1 + 1) 0 [.slice At nt ct,.slice Ak nk ck,.int .i64 a,.int .i64 b,.int .i64 c,.int .i64 d,.int .i64 e,.int .i64 W,.int .i64 H,.slice Ax nx cx,.slice Ar nr cr,.slice Ay ny cy,.int .i64 T,.int .i64 Z,.slice (some ⟨gu,ou,none⟩) N cu,.int .i64 us_,.slice Aq nq cq]) BX 0 [.slice At nt ct,.slice Ak nk ck,.int .i64 a,.int .i64 b,.int .i64 c,.int .i64 d,.int .i64 e,.int .i64 W,.int .i64 H,.slice Ax nx cx,.slice Ar nr cr,.slice Ay ny cy,.int .i64 T,.int .i64 Z,.slice (some ⟨gu,ou,none⟩) N cu,.int .i64 us_,.slice Aq nq cq]∧World.rangeAt (V6.setCells (w.heap.size + 1 + 1) 0 [.slice At nt ct,.slice Ak nk ck,.int .i64 a,.int .i64 b,.int .i64 c,.int .i64 d,.int .i64 e,.int .i64 W,.int .i64 H,.slice Ax nx cx,.slice Ar nr cr,.slice Ay ny cy,.int .i64 T,.int .i64 Z,.slice (some ⟨gu,ou,none⟩) N cu,.int .i64 us_,.slice Aq nq cq]) (w.heap.size + 1) 0 [.int .i64 T,.int .i64 Z,.slice (some ⟨gu,ou,none⟩) N cu]∧Kp w (V6.setCells (w.heap.size + 1 + 1) 0 [.slice At nt ct,.slice Ak nk ck,.int .i64 a,.int .i64 b,.int .i64 c,.int .i64 d,.int .i64 e,.int .i64 W,.int .i64 H,.slice Ax nx cx,.slice Ar nr cr,.slice Ay ny cy,.int .i64 T,.int .i64 Z,.slice (some ⟨gu,ou,none⟩) N cu,.int .i64 us_,.slice Aq nq cq]):=⟨World.rangeAt_setCells_apart hHeld.1 _ _ _ (.inl (by omega)),World.rangeAt_setCells_apart hHeld.2.1 _ _ _ (.inl (by omega)),kp_cells (by omega) _ _ _ hHeld.2.2⟩
        have r9':World.rangeAt (V6.setCells (w.heap.size + 1 + 1) 0 [.slice At nt ct,.slice Ak nk ck,.int .i64 a,.int .i64 b,.int .i64 c,.int .i64 d,.int .i64 e,.int .i64 W,.int .i64 H,.slice Ax nx cx,.slice Ar nr cr,.slice Ay ny cy,.int .i64 T,.int .i64 Z,.slice (some ⟨gu,ou,none⟩) N cu,.int .i64 us_,.slice Aq nq cq]) (w.heap.size + 1 + 1) 0 [.slice At nt ct,.slice Ak nk ck,.int .i64 a,.int .i64 b,.int .i64 c,.int .i64 d,.int .i64 e,.int .i64 W,.int .i64 H,.slice Ax nx cx,.slice Ar nr cr,.slice Ay ny cy,.int .i64 T,.int .i64 Z,.slice (some ⟨gu,ou,none⟩) N cu,.int .i64 us_,.slice Aq nq cq]:=World.rangeAt_setCells_same _ _ _ _ th17
        have th4':=World.there_setCells th4 (w.heap.size + 1 + 1) 0 [.slice At nt ct,.slice Ak nk ck,.int .i64 a,.int .i64 b,.int .i64 c,.int .i64 d,.int .i64 e,.int .i64 W,.int .i64 H,.slice Ax nx cx,.slice Ar nr cr,.slice Ay ny cy,.int .i64 T,.int .i64 Z,.slice (some ⟨gu,ou,none⟩) N cu,.int .i64 us_,.slice Aq nq cq]
        clear hHeld
        generalize V6.setCells (w.heap.size + 1 + 1) 0 [.slice At nt ct,.slice Ak nk ck,.int .i64 a,.int .i64 b,.int .i64 c,.int .i64 d,.int .i64 e,.int .i64 W,.int .i64 H,.slice Ax nx cx,.slice Ar nr cr,.slice Ay ny cy,.int .i64 T,.int .i64 Z,.slice (some ⟨gu,ou,none⟩) N cu,.int .i64 us_,.slice Aq nq cq]=W9 at *
        refine hK.out _ _ sX (fun hHeld=>?_)
        clear hK K
        try simp only [Act.put]
        clear sX
        refine wpAnyH_ready (rs:=[7]) (by kernel_rfl) (by simp) ?_
        refine (AllReadyH.cons (o:=⟨none,_,_,_,_,_⟩) rfl (fun K hK=>?_) AllReadyH.nil)
        rw [if_pos (by rfl)]
        refine wp_store_mid 103 _ _ rfl (w.heap.size + 1 + 1 + 1) 0 #[.int .i64 us_,.int .i64 uk,.int .i64 ua,.int .i64 ut] rfl rfl th4' (by kernel_rfl) (by simp [Value.oneCell']) ?_
        have eL:(#[.int .i64 us_,.int .i64 uk,.int .i64 ua,.int .i64 ut]:Array Value).toList=[.int .i64 us_,.int .i64 uk,.int .i64 ua,.int .i64 ut]:=rfl
        rw [eL]
        clear eL
        have sX:World.rangeAt (W9.setCells (w.heap.size + 1 + 1 + 1) 0 [.int .i64 us_,.int .i64 uk,.int .i64 ua,.int .i64 ut]) BX 0 [.slice At nt ct,.slice Ak nk ck,.int .i64 a,.int .i64 b,.int .i64 c,.int .i64 d,.int .i64 e,.int .i64 W,.int .i64 H,.slice Ax nx cx,.slice Ar nr cr,.slice Ay ny cy,.int .i64 T,.int .i64 Z,.slice (some ⟨gu,ou,none⟩) N cu,.int .i64 us_,.slice Aq nq cq]∧World.rangeAt (W9.setCells (w.heap.size + 1 + 1 + 1) 0 [.int .i64 us_,.int .i64 uk,.int .i64 ua,.int .i64 ut]) (w.heap.size + 1) 0 [.int .i64 T,.int .i64 Z,.slice (some ⟨gu,ou,none⟩) N cu]∧Kp w (W9.setCells (w.heap.size + 1 + 1 + 1) 0 [.int .i64 us_,.int .i64 uk,.int .i64 ua,.int .i64 ut]):=⟨World.rangeAt_setCells_apart hHeld.1 _ _ _ (.inl (by omega)),World.rangeAt_setCells_apart hHeld.2.1 _ _ _ (.inl (by omega)),kp_cells (by omega) _ _ _ hHeld.2.2⟩
        have r9:World.rangeAt (W9.setCells (w.heap.size + 1 + 1 + 1) 0 [.int .i64 us_,.int .i64 uk,.int .i64 ua,.int .i64 ut]) (w.heap.size + 1 + 1) 0 [.slice At nt ct,.slice Ak nk ck,.int .i64 a,.int .i64 b,.int .i64 c,.int .i64 d,.int .i64 e,.int .i64 W,.int .i64 H,.slice Ax nx cx,.slice Ar nr cr,.slice Ay ny cy,.int .i64 T,.int .i64 Z,.slice (some ⟨gu,ou,none⟩) N cu,.int .i64 us_,.slice Aq nq cq]:=World.rangeAt_setCells_apart r9' _ _ _ (.inl (by omega))
        have r10:World.rangeAt (W9.setCells (w.heap.size + 1 + 1 + 1) 0 [.int .i64 us_,.int .i64 uk,.int .i64 ua,.int .i64 ut]) (w.heap.size + 1 + 1 + 1) 0 [.int .i64 us_,.int .i64 uk,.int .i64 ua,.int .i64 ut]:=World.rangeAt_setCells_same _ _ _ _ th4'
        clear hHeld
        generalize W9.setCells (w.heap.size + 1 + 1 + 1) 0 [.int .i64 us_,.int .i64 uk,.int .i64 ua,.int .i64 ut]=W10 at *
        refine hK.out _ _ sX (fun hHeld=>?_)
        clear hK K
        try simp only [Act.put]
        refine tk 8 ⟨some 10,_,_,_,_,_⟩ ?_ rfl (by kernel_rfl) (fun _ _ _ h=>h) (by rfl) ?_ (by assumption) ?_
        rotate_left
        · intro w' hSw;(try dsimp only at hSw);go_simp;(all_goals with_reducible rfl)
        try simp only [Act.put,sA,sB,sC]
        refine wpAnyH_done (by kernel_rfl) ?_ _
        have K10:=hHeld.2.2
        clear hHeld sg6 sX
        go_wp2_with fail
        have hl:(loadVar 80 ⟨w.heap.size + 1 + 1,0,none⟩).run Tryz.prog W10=.ok (.agg #[.slice At nt ct,.slice Ak nk ck,.int .i64 a,.int .i64 b,.int .i64 c,.int .i64 d,.int .i64 e,.int .i64 W,.int .i64 H,.slice Ax nx cx,.slice Ar nr cr,.slice Ay ny cy,.int .i64 T,.int .i64 Z,.slice (some ⟨gu,ou,none⟩) N cu,.int .i64 us_,.slice Aq nq cq]) W10:=run_loadVar_mid W10 (w.heap.size + 1 + 1) 0 80 [.slice At nt ct,.slice Ak nk ck,.int .i64 a,.int .i64 b,.int .i64 c,.int .i64 d,.int .i64 e,.int .i64 W,.int .i64 H,.slice Ax nx cx,.slice Ar nr cr,.slice Ay ny cy,.int .i64 T,.int .i64 Z,.slice (some ⟨gu,ou,none⟩) N cu,.int .i64 us_,.slice Aq nq cq] _ r9 Tryz.underlying80 rfl (by kernel_rfl)
        have hl2:(loadVar 103 ⟨w.heap.size + 1 + 1 + 1,0,none⟩).run Tryz.prog W10=.ok (.agg #[.int .i64 us_,.int .i64 uk,.int .i64 ua,.int .i64 ut]) W10:=run_loadVar_mid W10 (w.heap.size + 1 + 1 + 1) 0 103 [.int .i64 us_,.int .i64 uk,.int .i64 ua,.int .i64 ut] _ r10 Tryz.underlying103 rfl (by kernel_rfl)
        refine bodyPost_ret (v:=.tuple #[.agg #[.slice At nt ct,.slice Ak nk ck,.int .i64 a,.int .i64 b,.int .i64 c,.int .i64 d,.int .i64 e,.int .i64 W,.int .i64 H,.slice Ax nx cx,.slice Ar nr cr,.slice Ay ny cy,.int .i64 T,.int .i64 Z,.slice (some ⟨gu,ou,none⟩) N cu,.int .i64 us_,.slice Aq nq cq],.agg #[.int .i64 us_,.int .i64 uk,.int .i64 ua,.int .i64 ut],.bool true]) (results_cells_tmp Tryz.results71 _ _ _ _ _ _ _ rfl rfl hl hl2) rfl ⟨rfl,K10⟩
      · go_simp
        go_wp2_with fail
        have k2:Kp W0 (V.alloc (.cells #[.slice none 0 0,.slice none 0 0,.int .i64 0,.int .i64 0,.int .i64 0,.int .i64 0,.int .i64 0,.int .i64 0,.int .i64 0,.slice none 0 0,.slice none 0 0,.slice none 0 0,.int .i64 0,.int .i64 0,.slice none 0 0,.int .i64 0,.slice none 0 0] 80)):=hHeld.alloc _
        have hbx:=hHeld.size
        have th:=there_fresh V [.slice none 0 0,.slice none 0 0,.int .i64 0,.int .i64 0,.int .i64 0,.int .i64 0,.int .i64 0,.int .i64 0,.int .i64 0,.slice none 0 0,.slice none 0 0,.slice none 0 0,.int .i64 0,.int .i64 0,.slice none 0 0,.int .i64 0,.slice none 0 0] 80
        generalize hBX:V.heap.size=BX at *
        have HBX:=Lib.hid hBX
        clear hBX hHeld
        generalize V.alloc (.cells #[.slice none 0 0,.slice none 0 0,.int .i64 0,.int .i64 0,.int .i64 0,.int .i64 0,.int .i64 0,.int .i64 0,.int .i64 0,.slice none 0 0,.slice none 0 0,.slice none 0 0,.int .i64 0,.int .i64 0,.slice none 0 0,.int .i64 0,.slice none 0 0] 80)=WA at *
        refine hK.out _ _ k2 (fun hHeld=>?_)
        clear hK K
        try simp only [Act.put,sA,sB,sC]
        refine wpAnyH_ready (rs:=[9]) (by kernel_rfl) (by simp) ?_
        refine (AllReadyH.cons (o:=⟨some 29,_,_,_,_,_⟩) rfl (fun K hK=>?_) AllReadyH.nil)
        go_simp
        refine (CSO.out _ (HSP.out.keep (KA.trans hHeld)) (HT.out.keep (KA.trans hHeld)) (HU.out.keep (KA.trans hHeld)) (HB.out.keep (KA.trans hHeld)) (HS.out.keep (KA.trans hHeld)) (HQ.out.keep (KA.trans hHeld))).mono ?_
        rintro e2 w2 ⟨rfl,q2⟩
        have k3:Kp W0 w2:=hHeld.trans q2
        have th2:=there_kp th q2
        clear q2 hHeld th
        go_wp2_with fail
        refine hK.out _ _ k3 (fun hHeld=>?_)
        clear hK K
        try simp only [Act.put,sA,sB,sC]
        refine tk 10 ⟨some 19,_,_,_,_,_⟩ ?_ rfl (by kernel_rfl) (fun _ _ _ h=>h) (by rfl) ?_ (by assumption) ?_
        rotate_left
        · intro w' hSw;(try dsimp only at hSw);go_simp;(all_goals with_reducible rfl)
        try simp only [Act.put,sA,sB,sC]
        refine tk 11 ⟨some 30,_,_,_,_,_⟩ ?_ rfl (by kernel_rfl) (fun _ _ _ h=>h) (by rfl) ?_ (by assumption) ?_
        rotate_left
        · intro w' hSw;(try dsimp only at hSw);go_simp;(all_goals with_reducible rfl)
        try simp only [Act.put,sA,sB,sC]
        refine tk 12 ⟨some 31,_,_,_,_,_⟩ ?_ rfl (by kernel_rfl) (fun _ _ _ h=>h) (by rfl) ?_ (by assumption) ?_
        rotate_left
        · intro w' hSw;(try dsimp only at hSw);go_simp;(all_goals with_reducible rfl)
        try simp only [Act.put,sA,sB,sC]
        refine wpAnyH_ready (rs:=[14]) (by kernel_rfl) (by simp) ?_
        refine (AllReadyH.cons (o:=⟨none,_,_,_,_,_⟩) rfl (fun K hK=>?_) AllReadyH.nil)
        rw [if_pos (by rfl)]
        refine wp_store_mid 80 _ _ rfl (BX) 0 #[.slice At nt ct,.slice Ak nk ck,.int .i64 a,.int .i64 b,.int .i64 c,.int .i64 d,.int .i64 e,.int .i64 W,.int .i64 H,.slice Ax nx cx,.slice Ar nr cr,.slice Ay ny cy,.int .i64 T,.int .i64 Z,.slice (some ⟨gu,ou,none⟩) N cu,.int .i64 us_,.slice Aq nq cq] rfl rfl th2 (by kernel_rfl) (by simp [Value.oneCell']) ?_
        have eL:(#[.slice At nt ct,.slice Ak nk ck,.int .i64 a,.int .i64 b,.int .i64 c,.int .i64 d,.int .i64 e,.int .i64 W,.int .i64 H,.slice Ax nx cx,.slice Ar nr cr,.slice Ay ny cy,.int .i64 T,.int .i64 Z,.slice (some ⟨gu,ou,none⟩) N cu,.int .i64 us_,.slice Aq nq cq]:Array Value).toList=[.slice At nt ct,.slice Ak nk ck,.int .i64 a,.int .i64 b,.int .i64 c,.int .i64 d,.int .i64 e,.int .i64 W,.int .i64 H,.slice Ax nx cx,.slice Ar nr cr,.slice Ay ny cy,.int .i64 T,.int .i64 Z,.slice (some ⟨gu,ou,none⟩) N cu,.int .i64 us_,.slice Aq nq cq]:=rfl
        rw [eL]
        clear eL
        have kS:Kp W0 (w2.setCells (BX) 0 [.slice At nt ct,.slice Ak nk ck,.int .i64 a,.int .i64 b,.int .i64 c,.int .i64 d,.int .i64 e,.int .i64 W,.int .i64 H,.slice Ax nx cx,.slice Ar nr cr,.slice Ay ny cy,.int .i64 T,.int .i64 Z,.slice (some ⟨gu,ou,none⟩) N cu,.int .i64 us_,.slice Aq nq cq]):=kp_cells hbx _ _ _ k3
        have rS:World.rangeAt (w2.setCells (BX) 0 [.slice At nt ct,.slice Ak nk ck,.int .i64 a,.int .i64 b,.int .i64 c,.int .i64 d,.int .i64 e,.int .i64 W,.int .i64 H,.slice Ax nx cx,.slice Ar nr cr,.slice Ay ny cy,.int .i64 T,.int .i64 Z,.slice (some ⟨gu,ou,none⟩) N cu,.int .i64 us_,.slice Aq nq cq]) (BX) 0 [.slice At nt ct,.slice Ak nk ck,.int .i64 a,.int .i64 b,.int .i64 c,.int .i64 d,.int .i64 e,.int .i64 W,.int .i64 H,.slice Ax nx cx,.slice Ar nr cr,.slice Ay ny cy,.int .i64 T,.int .i64 Z,.slice (some ⟨gu,ou,none⟩) N cu,.int .i64 us_,.slice Aq nq cq]:=World.rangeAt_setCells_same _ _ _ _ th2
        generalize w2.setCells (BX) 0 [.slice At nt ct,.slice Ak nk ck,.int .i64 a,.int .i64 b,.int .i64 c,.int .i64 d,.int .i64 e,.int .i64 W,.int .i64 H,.slice Ax nx cx,.slice Ar nr cr,.slice Ay ny cy,.int .i64 T,.int .i64 Z,.slice (some ⟨gu,ou,none⟩) N cu,.int .i64 us_,.slice Aq nq cq]=WS at *
        refine hK.out _ _ kS (fun hHeld=>?_)
        clear hK K
        try simp only [Act.put]
        refine tk 15 ⟨some 12,_,_,_,_,_⟩ ?_ rfl (by kernel_rfl) (fun _ _ _ h=>h) (by rfl) ?_ (by assumption) ?_
        rotate_left
        · intro w' hSw;(try dsimp only at hSw);go_simp;(all_goals with_reducible rfl)
        try simp only [Act.put,sA,sB,sC]
        refine wpAnyH_done (by kernel_rfl) ?_ _
        go_upto_region 6 with (fail)
        have kD:=kS.drew
        have sg6:World.rangeAt WS.drew BX 0 [.slice At nt ct,.slice Ak nk ck,.int .i64 a,.int .i64 b,.int .i64 c,.int .i64 d,.int .i64 e,.int .i64 W,.int .i64 H,.slice Ax nx cx,.slice Ar nr cr,.slice Ay ny cy,.int .i64 T,.int .i64 Z,.slice (some ⟨gu,ou,none⟩) N cu,.int .i64 us_,.slice Aq nq cq]∧World.rangeAt WS.drew (w.heap.size + 1) 0 [.int .i64 T,.int .i64 Z,.slice (some ⟨gu,ou,none⟩) N cu]∧Kp w WS.drew:=⟨range_keep rS ((Kp.refl _).drew),(H0.out _ kD).2.1,KA.trans kD⟩
        have th17:=(H0.out _ kD).2.2.1
        have th4:=(H0.out _ kD).2.2.2
        refine wp_region_held_drew (S:=fun w'=>World.rangeAt w' BX 0 [.slice At nt ct,.slice Ak nk ck,.int .i64 a,.int .i64 b,.int .i64 c,.int .i64 d,.int .i64 e,.int .i64 W,.int .i64 H,.slice Ax nx cx,.slice Ar nr cr,.slice Ay ny cy,.int .i64 T,.int .i64 Z,.slice (some ⟨gu,ou,none⟩) N cu,.int .i64 us_,.slice Aq nq cq]∧World.rangeAt w' (w.heap.size + 1) 0 [.int .i64 T,.int .i64 Z,.slice (some ⟨gu,ou,none⟩) N cu]∧Kp w w') (by kernel_rfl) sg6 (fun hHeld=>?_)
        generalize WS.drew=V6 at *
        have hne:w.heap.size + 1 + 1 + 1 < BX:=by have:=HW0.out;omega
        refine wpAnyH_take (i:=0) (oi:=⟨some 36,_,_,_,_,_⟩) (v:=.agg ([.slice At nt ct,.slice Ak nk ck,.int .i64 a,.int .i64 b,.int .i64 c,.int .i64 d,.int .i64 e,.int .i64 W,.int .i64 H,.slice Ax nx cx,.slice Ar nr cr,.slice Ay ny cy,.int .i64 T,.int .i64 Z,.slice (some ⟨gu,ou,none⟩) N cu,.int .i64 us_,.slice Aq nq cq]).toArray) rfl (by kernel_rfl) (by kernel_rfl) (by kernel_rfl) (fun _ _ _ h=>h) (yieldsIf_load_mid (by rfl) 80 _ rfl (BX) 0 rfl [.slice At nt ct,.slice Ak nk ck,.int .i64 a,.int .i64 b,.int .i64 c,.int .i64 d,.int .i64 e,.int .i64 W,.int .i64 H,.slice Ax nx cx,.slice Ar nr cr,.slice Ay ny cy,.int .i64 T,.int .i64 Z,.slice (some ⟨gu,ou,none⟩) N cu,.int .i64 us_,.slice Aq nq cq] _ (fun w' h=>h.1) Tryz.underlying80 rfl (by kernel_rfl)) (by assumption) ?_
        try simp only [Act.put,sA,sB,sC]
        refine tk 1 ⟨some 37,_,_,_,_,_⟩ ?_ rfl (by kernel_rfl) (fun _ _ _ h=>h) (by rfl) ?_ (by assumption) ?_
        rotate_left
        · intro w' hSw;have f2:=range_at hSw.2.1 2 _ rfl;obtain ⟨v0,v1,v2,v3⟩:=UC.out w' hSw.2.2;(try dsimp only at hSw);go_simp;(all_goals with_reducible rfl)
        try simp only [Act.put,sA,sB,sC]
        refine tk 2 ⟨some 38,_,_,_,_,_⟩ ?_ rfl (by kernel_rfl) (fun _ _ _ h=>h) (by rfl) ?_ (by assumption) ?_
        rotate_left
        · intro w' hSw;have f2:=range_at hSw.2.1 2 _ rfl;obtain ⟨v0,v1,v2,v3⟩:=UC.out w' hSw.2.2;(try dsimp only at hSw);go_simp;(all_goals with_reducible rfl)
        try simp only [Act.put,sA,sB,sC]
        refine tk 3 ⟨some 39,_,_,_,_,_⟩ ?_ rfl (by kernel_rfl) (fun _ _ _ h=>h) (by rfl) ?_ (by assumption) ?_
        rotate_left
        · intro w' hSw;have f2:=range_at hSw.2.1 2 _ rfl;obtain ⟨v0,v1,v2,v3⟩:=UC.out w' hSw.2.2;(try dsimp only at hSw);go_simp;(all_goals with_reducible rfl)
        try simp only [Act.put,sA,sB,sC]
        refine tk 4 ⟨some 40,_,_,_,_,_⟩ ?_ rfl (by kernel_rfl) (fun _ _ _ h=>h) (by rfl) ?_ (by assumption) ?_
        rotate_left
        · intro w' hSw;have f2:=range_at hSw.2.1 2 _ rfl;obtain ⟨v0,v1,v2,v3⟩:=UC.out w' hSw.2.2;(try dsimp only at hSw);go_simp;(all_goals with_reducible rfl)
        try simp only [Act.put,sA,sB,sC]
        refine wpAnyH_take (i:=5) (oi:=⟨some 41,_,_,_,_,_⟩) (v:=.agg #[.int .i64 us_,.int .i64 uk,.int .i64 ua,.int .i64 ut]) rfl (by kernel_rfl) (by kernel_rfl) (by kernel_rfl) (fun _ _ _ h=>h) (Or.inl ⟨by rfl,?_⟩) (by assumption) ?_
        · intro w' hSw;have f2:=range_at hSw.2.1 2 _ rfl;obtain ⟨v0,v1,v2,v3⟩:=UC.out w' hSw.2.2;(try dsimp only at hSw);go_simp
        try simp only [Act.put,sA,sB,sC]
        refine wpAnyH_ready (rs:=[6]) (by kernel_rfl) (by simp) ?_
        refine (AllReadyH.cons (o:=⟨none,_,_,_,_,_⟩) rfl (fun K hK=>?_) AllReadyH.nil)
        rw [if_pos (by rfl)]
        refine wp_store_mid 80 _ _ rfl (w.heap.size + 1 + 1) 0 #[.slice At nt ct,.slice Ak nk ck,.int .i64 a,.int .i64 b,.int .i64 c,.int .i64 d,.int .i64 e,.int .i64 W,.int .i64 H,.slice Ax nx cx,.slice Ar nr cr,.slice Ay ny cy,.int .i64 T,.int .i64 Z,.slice (some ⟨gu,ou,none⟩) N cu,.int .i64 us_,.slice Aq nq cq] rfl rfl th17 (by kernel_rfl) (by simp [Value.oneCell']) ?_
        have eL:(#[.slice At nt ct,.slice Ak nk ck,.int .i64 a,.int .i64 b,.int .i64 c,.int .i64 d,.int .i64 e,.int .i64 W,.int .i64 H,.slice Ax nx cx,.slice Ar nr cr,.slice Ay ny cy,.int .i64 T,.int .i64 Z,.slice (some ⟨gu,ou,none⟩) N cu,.int .i64 us_,.slice Aq nq cq]:Array Value).toList=[.slice At nt ct,.slice Ak nk ck,.int .i64 a,.int .i64 b,.int .i64 c,.int .i64 d,.int .i64 e,.int .i64 W,.int .i64 H,.slice Ax nx cx,.slice Ar nr cr,.slice Ay ny cy,.int .i64 T,.int .i64 Z,.slice (some ⟨gu,ou,none⟩) N cu,.int .i64 us_,.slice Aq nq cq]:=rfl
        rw [eL]
        clear eL
        have sX:World.rangeAt (V6.setCells (w.heap.size + 1 + 1) 0 [.slice At nt ct,.slice Ak nk ck,.int .i64 a,.int .i64 b,.int .i64 c,.int .i64 d,.int .i64 e,.int .i64 W,.int .i64 H,.slice Ax nx cx,.slice Ar nr cr,.slice Ay ny cy,.int .i64 T,.int .i64 Z,.slice (some ⟨gu,ou,none⟩) N cu,.int .i64 us_,.slice Aq nq cq]) BX 0 [.slice At nt ct,.slice Ak nk ck,.int .i64 a,.int .i64 b,.int .i64 c,.int .i64 d,.int .i64 e,.int .i64 W,.int .i64 H,.slice Ax nx cx,.slice Ar nr cr,.slice Ay ny cy,.int .i64 T,.int .i64 Z,.slice (some ⟨gu,ou,none⟩) N cu,.int .i64 us_,.slice Aq nq cq]∧World.rangeAt (V6.setCells (w.heap.size + 1 + 1) 0 [.slice At nt ct,.slice Ak nk ck,.int .i64 a,.int .i64 b,.int .i64 c,.int .i64 d,.int .i64 e,.int .i64 W,.int .i64 H,.slice Ax nx cx,.slice Ar nr cr,.slice Ay ny cy,.int .i64 T,.int .i64 Z,.slice (some ⟨gu,ou,none⟩) N cu,.int .i64 us_,.slice Aq nq cq]) (w.heap.size + 1) 0 [.int .i64 T,.int .i64 Z,.slice (some ⟨gu,ou,none⟩) N cu]∧Kp w (V6.setCells (w.heap.size + 1 + 1) 0 [.slice At nt ct,.slice Ak nk ck,.int .i64 a,.int .i64 b,.int .i64 c,.int .i64 d,.int .i64 e,.int .i64 W,.int .i64 H,.slice Ax nx cx,.slice Ar nr cr,.slice Ay ny cy,.int .i64 T,.int .i64 Z,.slice (some ⟨gu,ou,none⟩) N cu,.int .i64 us_,.slice Aq nq cq]):=⟨World.rangeAt_setCells_apart hHeld.1 _ _ _ (.inl (by omega)),World.rangeAt_setCells_apart hHeld.2.1 _ _ _ (.inl (by omega)),kp_cells (by omega) _ _ _ hHeld.2.2⟩
        have r9':World.rangeAt (V6.setCells (w.heap.size + 1 + 1) 0 [.slice At nt ct,.slice Ak nk ck,.int .i64 a,.int .i64 b,.int .i64 c,.int .i64 d,.int .i64 e,.int .i64 W,.int .i64 H,.slice Ax nx cx,.slice Ar nr cr,.slice Ay ny cy,.int .i64 T,.int .i64 Z,.slice (some ⟨gu,ou,none⟩) N cu,.int .i64 us_,.slice Aq nq cq]) (w.heap.size + 1 + 1) 0 [.slice At nt ct,.slice Ak nk ck,.int .i64 a,.int .i64 b,.int .i64 c,.int .i64 d,.int .i64 e,.int .i64 W,.int .i64 H,.slice Ax nx cx,.slice Ar nr cr,.slice Ay ny cy,.int .i64 T,.int .i64 Z,.slice (some ⟨gu,ou,none⟩) N cu,.int .i64 us_,.slice Aq nq cq]:=World.rangeAt_setCells_same _ _ _ _ th17
        have th4':=World.there_setCells th4 (w.heap.size + 1 + 1) 0 [.slice At nt ct,.slice Ak nk ck,.int .i64 a,.int .i64 b,.int .i64 c,.int .i64 d,.int .i64 e,.int .i64 W,.int .i64 H,.slice Ax nx cx,.slice Ar nr cr,.slice Ay ny cy,.int .i64 T,.int .i64 Z,.slice (some ⟨gu,ou,none⟩) N cu,.int .i64 us_,.slice Aq nq cq]
        clear hHeld
        generalize V6.setCells (w.heap.size + 1 + 1) 0 [.slice At nt ct,.slice Ak nk ck,.int .i64 a,.int .i64 b,.int .i64 c,.int .i64 d,.int .i64 e,.int .i64 W,.int .i64 H,.slice Ax nx cx,.slice Ar nr cr,.slice Ay ny cy,.int .i64 T,.int .i64 Z,.slice (some ⟨gu,ou,none⟩) N cu,.int .i64 us_,.slice Aq nq cq]=W9 at *
        refine hK.out _ _ sX (fun hHeld=>?_)
        clear hK K
        try simp only [Act.put]
        clear sX
        refine wpAnyH_ready (rs:=[7]) (by kernel_rfl) (by simp) ?_
        refine (AllReadyH.cons (o:=⟨none,_,_,_,_,_⟩) rfl (fun K hK=>?_) AllReadyH.nil)
        rw [if_pos (by rfl)]
        refine wp_store_mid 103 _ _ rfl (w.heap.size + 1 + 1 + 1) 0 #[.int .i64 us_,.int .i64 uk,.int .i64 ua,.int .i64 ut] rfl rfl th4' (by kernel_rfl) (by simp [Value.oneCell']) ?_
        have eL:(#[.int .i64 us_,.int .i64 uk,.int .i64 ua,.int .i64 ut]:Array Value).toList=[.int .i64 us_,.int .i64 uk,.int .i64 ua,.int .i64 ut]:=rfl
        rw [eL]
        clear eL
        have sX:World.rangeAt (W9.setCells (w.heap.size + 1 + 1 + 1) 0 [.int .i64 us_,.int .i64 uk,.int .i64 ua,.int .i64 ut]) BX 0 [.slice At nt ct,.slice Ak nk ck,.int .i64 a,.int .i64 b,.int .i64 c,.int .i64 d,.int .i64 e,.int .i64 W,.int .i64 H,.slice Ax nx cx,.slice Ar nr cr,.slice Ay ny cy,.int .i64 T,.int .i64 Z,.slice (some ⟨gu,ou,none⟩) N cu,.int .i64 us_,.slice Aq nq cq]∧World.rangeAt (W9.setCells (w.heap.size + 1 + 1 + 1) 0 [.int .i64 us_,.int .i64 uk,.int .i64 ua,.int .i64 ut]) (w.heap.size + 1) 0 [.int .i64 T,.int .i64 Z,.slice (some ⟨gu,ou,none⟩) N cu]∧Kp w (W9.setCells (w.heap.size + 1 + 1 + 1) 0 [.int .i64 us_,.int .i64 uk,.int .i64 ua,.int .i64 ut]):=⟨World.rangeAt_setCells_apart hHeld.1 _ _ _ (.inl (by omega)),World.rangeAt_setCells_apart hHeld.2.1 _ _ _ (.inl (by omega)),kp_cells (by omega) _ _ _ hHeld.2.2⟩
        have r9:World.rangeAt (W9.setCells (w.heap.size + 1 + 1 + 1) 0 [.int .i64 us_,.int .i64 uk,.int .i64 ua,.int .i64 ut]) (w.heap.size + 1 + 1) 0 [.slice At nt ct,.slice Ak nk ck,.int .i64 a,.int .i64 b,.int .i64 c,.int .i64 d,.int .i64 e,.int .i64 W,.int .i64 H,.slice Ax nx cx,.slice Ar nr cr,.slice Ay ny cy,.int .i64 T,.int .i64 Z,.slice (some ⟨gu,ou,none⟩) N cu,.int .i64 us_,.slice Aq nq cq]:=World.rangeAt_setCells_apart r9' _ _ _ (.inl (by omega))
        have r10:World.rangeAt (W9.setCells (w.heap.size + 1 + 1 + 1) 0 [.int .i64 us_,.int .i64 uk,.int .i64 ua,.int .i64 ut]) (w.heap.size + 1 + 1 + 1) 0 [.int .i64 us_,.int .i64 uk,.int .i64 ua,.int .i64 ut]:=World.rangeAt_setCells_same _ _ _ _ th4'
        clear hHeld
        generalize W9.setCells (w.heap.size + 1 + 1 + 1) 0 [.int .i64 us_,.int .i64 uk,.int .i64 ua,.int .i64 ut]=W10 at *
        refine hK.out _ _ sX (fun hHeld=>?_)
        clear hK K
        try simp only [Act.put]
        refine tk 8 ⟨some 10,_,_,_,_,_⟩ ?_ rfl (by kernel_rfl) (fun _ _ _ h=>h) (by rfl) ?_ (by assumption) ?_
        rotate_left
        · intro w' hSw;(try dsimp only at hSw);go_simp;(all_goals with_reducible rfl)
        try simp only [Act.put,sA,sB,sC]
        refine wpAnyH_done (by kernel_rfl) ?_ _
        have K10:=hHeld.2.2
        clear hHeld sg6 sX
        go_wp2_with fail
        have hl:(loadVar 80 ⟨w.heap.size + 1 + 1,0,none⟩).run Tryz.prog W10=.ok (.agg #[.slice At nt ct,.slice Ak nk ck,.int .i64 a,.int .i64 b,.int .i64 c,.int .i64 d,.int .i64 e,.int .i64 W,.int .i64 H,.slice Ax nx cx,.slice Ar nr cr,.slice Ay ny cy,.int .i64 T,.int .i64 Z,.slice (some ⟨gu,ou,none⟩) N cu,.int .i64 us_,.slice Aq nq cq]) W10:=run_loadVar_mid W10 (w.heap.size + 1 + 1) 0 80 [.slice At nt ct,.slice Ak nk ck,.int .i64 a,.int .i64 b,.int .i64 c,.int .i64 d,.int .i64 e,.int .i64 W,.int .i64 H,.slice Ax nx cx,.slice Ar nr cr,.slice Ay ny cy,.int .i64 T,.int .i64 Z,.slice (some ⟨gu,ou,none⟩) N cu,.int .i64 us_,.slice Aq nq cq] _ r9 Tryz.underlying80 rfl (by kernel_rfl)
        have hl2:(loadVar 103 ⟨w.heap.size + 1 + 1 + 1,0,none⟩).run Tryz.prog W10=.ok (.agg #[.int .i64 us_,.int .i64 uk,.int .i64 ua,.int .i64 ut]) W10:=run_loadVar_mid W10 (w.heap.size + 1 + 1 + 1) 0 103 [.int .i64 us_,.int .i64 uk,.int .i64 ua,.int .i64 ut] _ r10 Tryz.underlying103 rfl (by kernel_rfl)
        refine bodyPost_ret (v:=.tuple #[.agg #[.slice At nt ct,.slice Ak nk ck,.int .i64 a,.int .i64 b,.int .i64 c,.int .i64 d,.int .i64 e,.int .i64 W,.int .i64 H,.slice Ax nx cx,.slice Ar nr cr,.slice Ay ny cy,.int .i64 T,.int .i64 Z,.slice (some ⟨gu,ou,none⟩) N cu,.int .i64 us_,.slice Aq nq cq],.agg #[.int .i64 us_,.int .i64 uk,.int .i64 ua,.int .i64 ut],.bool true]) (results_cells_tmp Tryz.results71 _ _ _ _ _ _ _ rfl rfl hl hl2) rfl ⟨rfl,K10⟩
theorem supplierOfUnit_any (At Ak:Option Addr) (nt nk ct ck:Nat) (l:List Ter) (m:List Knd) (a b c d e W H:Int) (x r y:Value) (lt lr ld:List Int) (T Z:Int) (u:Value) (us:List Uni) (un:Int) (Aq:Option Addr) (nq cq:Nat) (ls:List Int) (w:World) (hs:Spans w) (ht:Tab w) (hu:SpU w) (hB:BrdAt w At Ak nt nk l m x r y lt lr ld) (hS:StaAt w u us) (hq:RdI w (.slice Aq nq cq) ls) (hql:ls.length ≤ 1048576) :
    Calls Tryz.prog 71 #[bv (.slice At nt ct) (.slice Ak nk ck) a b c d e W H x r y,sv T Z u,.int .i64 un,.slice Aq nq cq] w fun e' w'=>e'=.returned (.tuple #[if (inB un us.length && (((brdOk ⟨l,m,a,b,c,d,e⟩ W H lt lr ld && staOk ⟨l,m,a,b,c,d,e⟩ W H lt T Z us) && spB 0 1 (unN us un).s) && srcOk W H ls))=true then .agg #[.slice At nt ct,.slice Ak nk ck,.int .i64 a,.int .i64 b,.int .i64 c,.int .i64 d,.int .i64 e,.int .i64 W,.int .i64 H,x,r,y,.int .i64 T,.int .i64 Z,u,.int .i64 (unN us un).s,.slice Aq nq cq] else .agg #[.slice none 0 0,.slice none 0 0,.int .i64 0,.int .i64 0,.int .i64 0,.int .i64 0,.int .i64 0,.int .i64 0,.int .i64 0,.slice none 0 0,.slice none 0 0,.slice none 0 0,.int .i64 0,.int .i64 0,.slice none 0 0,.int .i64 0,.slice none 0 0],if (inB un us.length && (((brdOk ⟨l,m,a,b,c,d,e⟩ W H lt lr ld && staOk ⟨l,m,a,b,c,d,e⟩ W H lt T Z us) && spB 0 1 (unN us un).s) && srcOk W H ls))=true then ux (unN us un).s (unN us un).k (unN us un).a (unN us un).t else ux 0 0 0 0,.bool (inB un us.length && (((brdOk ⟨l,m,a,b,c,d,e⟩ W H lt lr ld && staOk ⟨l,m,a,b,c,d,e⟩ W H lt T Z us) && spB 0 1 (unN us un).s) && srcOk W H ls))])∧Kp w w':=by
  obtain ⟨Ax,cx,rfl,_⟩:=hB.L.rt
  obtain ⟨Ar,cr,rfl,_⟩:=hB.L.rr
  obtain ⟨Ay,cy,rfl,_⟩:=hB.L.rd
  obtain ⟨Au,cu,rfl,_⟩:=hS.rd
  exact supplierOfUnit_g At Ak nt nk ct ck l m a b c d e W H Ax Ar Ay lt.length cx lr.length cr ld.length cy lt lr ld T Z Au us.length cu us un Aq nq cq ls w hs ht hu hB hS hq hql rfl
end Go.Proofs.YtgefinicjphmpaaGreatDoor
