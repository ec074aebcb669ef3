/-
 Which hexes can be used, for the reference; a unit's distances; whether it is in supply. In memory of their own; nothing that was there is changed.
-/
import Derived.Deep.Cut
import Derived.Deep.RegionHeld3
import Derived.Test.YtacgknllagdkoaaGreatDoorSuY
import Derived.Test.YtacgknllagdkoaaGreatDoorSuJ
import Derived.Test.YtacgknllagdkoaaGreatDoorSuS
import Derived.Test.YtacgknllagdkoaaGreatDoorMid
import Derived.Test.YtacgknllagdkoaaGreatDoorQa
import Derived.Test.YtacgknllagdkoaaGreatDoorQa
namespace Go.Proofs.YtacgknllagdkoaaGreatDoor
open Go.RowKit
def boolsL (f:Nat→Bool) (n:Nat):List Value:=(List.range n).map fun j=>Value.bool (f j)
def OwnBo (w:World) (base:Nat) (v:Value) (n:Nat) (f:Nat→Bool):Prop:=w.ownsRow base 4 1 v n (boolsL f n)
theorem OwnBo.keep {w w':World} {base n:Nat} {v:Value} {f:Nat→Bool} (h:OwnBo w base v n f) (k:Kp w w'):OwnBo w' base v n f:=ownsRow_keep h k
theorem OwnBo.base {w:World} {base b n:Nat} {v:Value} {f:Nat→Bool} (h:OwnBo w base v n f) (hb:b≤base):OwnBo w b v n f:=ownsRow_base h hb
theorem OwnBo.rd {w:World} {base n:Nat} {v:Value} {f:Nat→Bool} (h:OwnBo w base v n f):RdBo w v n f:=by
 have h0:w.ownsRow base 4 1 v n (boolsL f n):=h
 rcases h0.2 with ⟨hv,hn⟩ | ⟨g,cap,cur,hv,_⟩
 ·exact⟨none,0,by rw [hv,hn],fun hp=>by omega⟩
 ·refine⟨some ⟨g,0,none⟩,cap,hv,fun _=>⟨g,0,rfl,fun j hj=>?_⟩⟩
  rw [hv] at h0
  rw [Nat.zero_add]
  exact(World.ownsRow.cellAt h0 j (by omega)).trans (by simp [boolsL,hj])
theorem OwnBo.put {w:World} {base n g c:Nat} {f:Nat→Bool} (h:OwnBo w base (.slice (some ⟨g,0,none⟩) n c) n f) {k:Nat} (hk:k<n) (b:Bool) :
  (∃ u,w.cell? ⟨g,k,none⟩=some u)∧w.frozen? ⟨g,k,none⟩=false∧OwnBo (w.setCell ⟨g,k,none⟩ (.bool b)) base (.slice (some ⟨g,0,none⟩) n c) n (fun j=>if j=k then b else f j):=by
 have hl:(boolsL f n).length=n*1:=h.1
 refine⟨⟨_,(World.ownsRow.cellAt h k (by omega)).trans (List.getElem?_eq_getElem (by omega))⟩,World.ownsRow.frozenAt h k,?_⟩
 have h1:=(World.ownsRow.stored h k (.bool b)).1
 have e:boolsL (fun j=>if j=k then b else f j) n=(boolsL f n).set k (.bool b):=by
  apply List.ext_getElem?
  intro j
  rw [List.getElem?_set]
  by_cases hj:j<n
  ·by_cases hjk:k=j
   ·subst hjk;simp [boolsL,hj]
   ·simp [boolsL,hj,hjk,Ne.symm hjk]
  ·have h9:n≤j:=by omega
   simp [boolsL,h9]
   omega
 unfold OwnBo
 rw [e]
 exact h1
theorem OwnBo.cong {w:World} {base n:Nat} {v:Value} {f g:Nat→Bool} (h:OwnBo w base v n f) (e:∀ j,j<n→f j=g j):OwnBo w base v n g:=by
 have:boolsL f n=boolsL g n:=List.map_congr_left fun j hj=>by rw [e j (List.mem_range.1 hj)]
 unfold OwnBo
 rw [← this]
 exact h
theorem infoBool:(Tryz.prog.info? 4).map (fun i=>(i.zero,i.size,i.bytes))=some (some (.bool false),1,1):=by kernel_rfl
theorem mkBools (n:Nat) (hn:n≤1048576) (w:World) :
  (Instr.makeSlice 157 (.int .i64 (n:Int)) (.int .i64 (n:Int))).run Tryz.prog w=.ok (.slice (some ⟨w.heap.size,0,none⟩) n n) (w.alloc (.cells (madeCells #[.bool false] n) 4)):=by
 obtain⟨i,hi,hz,hs,hb⟩:=info_parts infoBool
 have hr:=run_make (P:=Tryz.prog) w 157 4 i (.bool false) Tryz.underlying157 hi hz .i64 .i64 (n:Int) (n:Int) (by omega) (Int.le_refl _) (by rw [hb];omega) (by omega)
 rw [hs,Int.toNat_natCast,Nat.mul_one] at hr
 exact hr
theorem ownBo_zero (w:World) (n:Nat) (hn:n≤1048576):OwnBo (w.alloc (.cells (madeCells #[.bool false] n) 4)) w.heap.size (.slice (some ⟨w.heap.size,0,none⟩) n n) n (fun _=>false):=by
 have own0:(w.alloc (.cells (madeCells #[.bool false] n) 4)).ownsRow w.heap.size 4 1 (.slice (some ⟨w.heap.size,0,none⟩) n n) n (madeCells #[.bool false] n).toList :=
  World.ownsRow_lit w _ n (Nat.le_refl _) (by simp only [maxLen];omega) (by rw [size_madeCells,Nat.mul_one])
 have e:boolsL (fun _=>false) n=(madeCells #[.bool false] n).toList:=by
  apply List.ext_getElem?
  intro j
  by_cases hj:j<n
  ·have:j % 1=0:=Nat.mod_one j
   simp [boolsL,madeCells,hj,this]
  ·simp [boolsL,madeCells,hj]
 unfold OwnBo
 rw [e]
 exact own0
set_option maxRecDepth 100000 in
set_option maxHeartbeats 4000000 in
theorem jOpen_any (At Ak:Option Addr) (nt nk ct ck:Nat) (l:List Ter) (m:List Knd) (a b c d e W H:Int) (x r y:Value) (lt lr ld:List Int) (T Z:Int) (u:Value) (us:List Uni) (sd:Int) (k:Nat) (w:World) (hB:BrdAt w At Ak nt nk l m x r y lt lr ld) (hS:StaAt w u us) (hok:brdOk ⟨l,m,a,b,c,d,e⟩ W H lt lr ld=true) (hst:staOk ⟨l,m,a,b,c,d,e⟩ W H lt T Z us=true) (hk:k<m.length) (hsd:sd=0∨sd=1) :
  Calls Tryz.prog 167 #[bv (.slice At nt ct) (.slice Ak nk ck) a b c d e W H x r y,sv T Z u,.int .i64 sd,.int .i64 (k:Int)] w fun e' w'=>∃ v,e'=.returned v∧OwnBo w' w.heap.size v lt.length (fun j=>pasB l m lt lr ld W us sd k j)∧Kp w w':=by
 obtain⟨p1,p2,p3,p4⟩:=mapOk_side (brdOk_map hok)
 have hlen:=mapOk_len (brdOk_map hok)
 have hA:=area_bd p1 p2 p3 p4
 have KA:Kp w ((w.alloc (.cells #[.slice At nt ct,.slice Ak nk ck,.int .i64 a,.int .i64 b,.int .i64 c,.int .i64 d,.int .i64 e,.int .i64 W,.int .i64 H,x,r,y] 47)).alloc (.cells #[.int .i64 T,.int .i64 Z,u] 51)):=((Kp.refl w).alloc _).alloc _
 have H0:Hid (∀ w',Kp ((w.alloc (.cells #[.slice At nt ct,.slice Ak nk ck,.int .i64 a,.int .i64 b,.int .i64 c,.int .i64 d,.int .i64 e,.int .i64 W,.int .i64 H,x,r,y] 47)).alloc (.cells #[.int .i64 T,.int .i64 Z,u] 51)) w'→World.rangeAt w' w.heap.size 0 [.slice At nt ct,.slice Ak nk ck,.int .i64 a,.int .i64 b,.int .i64 c,.int .i64 d,.int .i64 e,.int .i64 W,.int .i64 H,x,r,y]∧World.rangeAt w' (w.heap.size+1) 0 [.int .i64 T,.int .i64 Z,u]):=Lib.hid fun w' k=>by
  have r3:=range_fresh (w.alloc (.cells #[.slice At nt ct,.slice Ak nk ck,.int .i64 a,.int .i64 b,.int .i64 c,.int .i64 d,.int .i64 e,.int .i64 W,.int .i64 H,x,r,y] 47)) [.int .i64 T,.int .i64 Z,u] 51
  rw [show (w.alloc (.cells #[.slice At nt ct,.slice Ak nk ck,.int .i64 a,.int .i64 b,.int .i64 c,.int .i64 d,.int .i64 e,.int .i64 W,.int .i64 H,x,r,y] 47)).heap.size=w.heap.size+1 by simp] at r3
  exact⟨range_keep (range_fresh w [.slice At nt ct,.slice Ak nk ck,.int .i64 a,.int .i64 b,.int .i64 c,.int .i64 d,.int .i64 e,.int .i64 W,.int .i64 H,x,r,y] 47) (((Kp.refl _).alloc _).trans k),range_keep r3 k⟩
 have I12:Hid ((Tryz.prog.info? 47).map (·.size)=some 12):=Lib.hid (by kernel_rfl)
 have I3:Hid ((Tryz.prog.info? 51).map (·.size)=some 3):=Lib.hid (by kernel_rfl)
 have I5:Hid ((Tryz.prog.info? 45).map (·.size)=some 5):=Lib.hid (by kernel_rfl)
 have HB:=Lib.hid hB
 have HS:=Lib.hid hS
 have hN2:lt.length≤100:=by omega
 have CS:Hid (∀ w,Calls Tryz.prog 102 #[mp W H x r y] w fun e w'=>e=.returned (.int .i64 (lt.length:Int))∧Kp w w'):=Lib.hid fun w=>by
  have h:=mSize_any W H x r y w p1 p2 p3 p4
  rw [← hlen] at h
  exact h
 have CC:=Lib.hid (fun (j:Nat) (hj:j<lt.length) (w:World) hB=>bCost_any At Ak nt nk ct ck l m a b c d e W H x r y lt lr ld k j w hB hok hk hj)
 have CJ:=Lib.hid (fun (j:Nat) (hj:j<lt.length) (w:World) hB hS=>jBlocked_any At Ak nt nk ct ck l m a b c d e W H x r y lt lr ld T Z u us sd (j:Int) w hB hS hok hst (onI_mk (by omega) (by omega)) hsd)
 have HP:Hid (∀ j:Nat,(fun j=>pasB l m lt lr ld W us sd k j) j=(decide (0<costB l lt k j) && !blkB l m lt lr ld W us sd (j:Int))):=Lib.hid fun j=>rfl
 generalize (fun j=>pasB l m lt lr ld W us sd k j)=F at HP ⊢
 generalize hN:lt.length=N at *
 clear hB hS hok hst hk hsd hlen hN
 have hmk:=fun w=>mkBools N (by omega) w
 go_enter Tryz.func167,Tryz.ntmps167
 go_upto_region 1 with (fail)
 have hz0:((w.alloc (.cells #[.slice At nt ct,.slice Ak nk ck,.int .i64 a,.int .i64 b,.int .i64 c,.int .i64 d,.int .i64 e,.int .i64 W,.int .i64 H,x,r,y] 47)).alloc (.cells #[.int .i64 T,.int .i64 Z,u] 51)).heap.size=w.heap.size+2:=by simp
 generalize ((w.alloc (.cells #[.slice At nt ct,.slice Ak nk ck,.int .i64 a,.int .i64 b,.int .i64 c,.int .i64 d,.int .i64 e,.int .i64 W,.int .i64 H,x,r,y] 47)).alloc (.cells #[.int .i64 T,.int .i64 Z,u] 51))=W0 at *
 obtain⟨s12,s3⟩:=H0.out W0 (Kp.refl _)
 have s5:=range_part s12 7 5
 go_wp2_with (first | ((with_reducible refine load_m s12 Tryz.underlying47 ?_ ?_ ?_ ?_ ?_);exact I12.out;rfl;rfl;rfl) | ((with_reducible refine load_m s3 Tryz.underlying51 ?_ ?_ ?_ ?_ ?_);exact I3.out;rfl;rfl;rfl) | ((with_reducible refine load_m s5 Tryz.underlying45 ?_ ?_ ?_ ?_ ?_);exact I5.out;rfl;rfl;rfl))
 refine(CS.out _).mono ?_
 rintro e1 w1 ⟨rfl,q1⟩
 clear s12 s3 s5
 have HO1:=Lib.hid ((ownBo_zero w1 N (by omega)).cong (g:=fun j=>decide (j<0) && F j) (fun j _=>by simp))
 have kM:Kp W0 (w1.alloc (.cells (madeCells #[.bool false] N) 4)):=q1.alloc _
 have hW1:=q1.size
 go_upto_region 2 with (fail)
 clear hmk
 generalize w1.alloc (.cells (madeCells #[.bool false] N) 4)=W1 at *
 go_wp2_with fail
 go_loopw [10,17] (fun _ i wx=>∃ q:Nat,q≤N∧i=.int .i64 q∧Hid (OwnBo wx w1.heap.size (.slice (some ⟨w1.heap.size,0,none⟩) N N) N (fun j=>decide (j<q) && F j))∧Kp W0 wx) (fun _ i _=>N - (intOf i).toNat)
 case atStart=>exact⟨0,by omega,rfl,HO1,kM⟩
 case round =>
  clear HO1 kM
  obtain⟨q,hqn,rfl,HO,kr⟩:=hrel
  by_cases hlt:q<N
  ·have hlt':(q:Int)<N:=by omega
   have CQ:=Lib.hid (CC.out q hlt)
   have CB:=Lib.hid (CJ.out q hlt)
   have hpq:=HP.out q
   have HNX:Hid (∀ b,F q=b→∀ j,j<N→(if j=q then b else (decide (j<q) && F j))=(decide (j<q+1) && F j)):=Lib.hid fun b hb j _=>by
    by_cases hj:j=q
    ·subst hj;rw [if_pos rfl,hb,decide_eq_true (Nat.lt_succ_self j),Bool.true_and]
    ·rw [if_neg hj]
     congr 1
     exact decide_eq_decide.2 (by omega)
   generalize costB l lt k q=C at CQ hpq
   obtain⟨s12,s3⟩:=H0.out wr kr
   have s5:=range_part s12 7 5
   by_cases hc:0<C
   ·have hc1:decide (0<C)=true:=by simpa using hc
    rw [hc1,Bool.true_and] at hpq
    generalize blkB l m lt lr ld W us sd (q:Int)=R at CB hpq
    go_wp2_with (first | ((with_reducible refine load_m s12 Tryz.underlying47 ?_ ?_ ?_ ?_ ?_);exact I12.out;rfl;rfl;rfl) | ((with_reducible refine load_m s3 Tryz.underlying51 ?_ ?_ ?_ ?_ ?_);exact I3.out;rfl;rfl;rfl) | ((with_reducible refine load_m s5 Tryz.underlying45 ?_ ?_ ?_ ?_ ?_);exact I5.out;rfl;rfl;rfl))
    refine(CQ.out _ (HB.out.keep (KA.trans kr))).mono ?_
    rintro e2 w2 ⟨rfl,q2⟩
    have k2:=kr.trans q2
    have HO2:=Lib.hid (HO.out.keep q2)
    clear s12 s3 s5 q2 HO kr
    obtain⟨s12,s3⟩:=H0.out w2 k2
    have s5:=range_part s12 7 5
    go_wp2_with (first | ((with_reducible refine load_m s12 Tryz.underlying47 ?_ ?_ ?_ ?_ ?_);exact I12.out;rfl;rfl;rfl) | ((with_reducible refine load_m s3 Tryz.underlying51 ?_ ?_ ?_ ?_ ?_);exact I3.out;rfl;rfl;rfl) | ((with_reducible refine load_m s5 Tryz.underlying45 ?_ ?_ ?_ ?_ ?_);exact I5.out;rfl;rfl;rfl))
    refine(CB.out _ (HB.out.keep (KA.trans k2)) (HS.out.keep (KA.trans k2))).mono ?_
    rintro e3 w3 ⟨rfl,q3⟩
    have k3:=k2.trans q3
    have HO3:=Lib.hid (HO2.out.keep q3)
    clear s12 s3 s5 q3 HO2 k2
    obtain⟨⟨u0,hu0⟩,hf0,o4⟩:=OwnBo.put HO3.out hlt (!R)
    have HO4:=Lib.hid (o4.cong (HNX.out _ hpq))
    have k4:=k3.setCell (p:=⟨w1.heap.size,q,none⟩) hW1 (.bool (!R))
    clear o4 HNX HO3
    go_wp2_with fail
    go_roundw
    case rel=>exact⟨q+1,by omega,by go_num,HO4,k4⟩
    case measure=>simp [intOf];omega
   ·have hc1:decide (0<C)=false:=by simpa using hc
    rw [hc1,Bool.false_and] at hpq
    go_wp2_with (first | ((with_reducible refine load_m s12 Tryz.underlying47 ?_ ?_ ?_ ?_ ?_);exact I12.out;rfl;rfl;rfl) | ((with_reducible refine load_m s3 Tryz.underlying51 ?_ ?_ ?_ ?_ ?_);exact I3.out;rfl;rfl;rfl) | ((with_reducible refine load_m s5 Tryz.underlying45 ?_ ?_ ?_ ?_ ?_);exact I5.out;rfl;rfl;rfl))
    refine(CQ.out _ (HB.out.keep (KA.trans kr))).mono ?_
    rintro e2 w2 ⟨rfl,q2⟩
    have k2:=kr.trans q2
    have HO2:=Lib.hid (HO.out.keep q2)
    clear s12 s3 s5 q2 HO kr
    obtain⟨⟨u0,hu0⟩,hf0,o4⟩:=OwnBo.put HO2.out hlt false
    have HO4:=Lib.hid (o4.cong (HNX.out _ hpq))
    have k4:=k2.setCell (p:=⟨w1.heap.size,q,none⟩) hW1 (.bool false)
    clear o4 HNX HO2
    go_wp2_with fail
    go_roundw
    case rel=>exact⟨q+1,by omega,by go_num,HO4,k4⟩
    case measure=>simp [intOf];omega
  ·obtain rfl:N=q:=by omega
   have HO5:=Lib.hid (HO.out.cong (g:=F) (fun j hj=>by rw [decide_eq_true hj,Bool.true_and]))
   clear HO
   go_wp2_with fail
   go_ret
   exact⟨_,rfl,HO5.out.base (b:=w.heap.size) (by omega),KA.trans kr⟩
set_option maxRecDepth 100000 in
set_option maxHeartbeats 4000000 in
theorem jUnit_any (At Ak:Option Addr) (nt nk ct ck:Nat) (l:List Ter) (m:List Knd) (a b c d e W H:Int) (x r y:Value) (lt lr ld:List Int) (T Z:Int) (u:Value) (us:List Uni) (k0 k:Nat) (zs za zt:Int) (w:World) (hB:BrdAt w At Ak nt nk l m x r y lt lr ld) (hS:StaAt w u us) (hok:brdOk ⟨l,m,a,b,c,d,e⟩ W H lt lr ld=true) (hst:staOk ⟨l,m,a,b,c,d,e⟩ W H lt T Z us=true) (hk1:us[k0]?=some ⟨zs,(k:Int),za,zt⟩) (hk:k<m.length) (hsd:zs=0∨zs=1) (qv:Value) (src:List Nat) (hq:RdI w qv (ints src)) (hs:∀ k ∈ src,k<lt.length) (hnd:src.Nodup) :
  Calls Tryz.prog 114 #[bv (.slice At nt ct) (.slice Ak nk ck) a b c d e W H x r y,sv T Z u,.int .i64 (k0:Int),qv] w fun e' w'=>∃ vo vf,e'=.returned (.tuple #[vo,vf])∧OwnBo w' w.heap.size vo lt.length (fun j=>pasB l m lt lr ld W us zs k j)∧OwnI w' w.heap.size vf (farL (fun j=>pasB l m lt lr ld W us zs k j) W H src lt.length)∧Kp w w':=by
 obtain⟨p1,p2,p3,p4⟩:=mapOk_side (brdOk_map hok)
 have hlen:=mapOk_len (brdOk_map hok)
 have HB:=Lib.hid hB
 have HS:=Lib.hid hS
 have HQ:=Lib.hid hq
 have CO:=Lib.hid (fun (w:World) hB hS=>jOpen_any At Ak nt nk ct ck l m a b c d e W H x r y lt lr ld T Z u us zs k w hB hS hok hst hk hsd)
 have CF:=Lib.hid (fun (vo:Value) (w:World) ho hq=>jFar_any W H x r y (fun j=>pasB l m lt lr ld W us zs k j) lt.length src vo qv w p1 p2 p3 p4 hlen ho hq hs hnd)
 obtain⟨A,cp,rfl,hrow⟩:=hS.rd
 have hbN:=hS.b
 generalize hNU:us.length=NU at *
 have hkNU:k0<NU:=by rw [← hNU];exact(List.getElem?_eq_some_iff.1 hk1).1
 obtain⟨gu,ou,rfl,hc⟩:=hrow (by omega)
 have hcu:=hc k0 _ hk1
 have hk0':(k0:Int)<NU:=by omega
 have UC:Hid (∀ w',Kp w w'→w'.cell? ⟨gu,ou+k0*4,none⟩=some (.int .i64 zs)∧w'.cell? ⟨gu,ou+k0*4+1,none⟩=some (.int .i64 (k:Int))∧w'.cell? ⟨gu,ou+k0*4+2,none⟩=some (.int .i64 za)∧w'.cell? ⟨gu,ou+k0*4+3,none⟩=some (.int .i64 zt)):=Lib.hid fun w' k=>hcu.keep k
 have KA:Kp w ((w.alloc (.cells #[.slice At nt ct,.slice Ak nk ck,.int .i64 a,.int .i64 b,.int .i64 c,.int .i64 d,.int .i64 e,.int .i64 W,.int .i64 H,x,r,y] 47)).alloc (.cells #[.int .i64 T,.int .i64 Z,.slice (some ⟨gu,ou,none⟩) NU cp] 51)):=((Kp.refl w).alloc _).alloc _
 have H0:Hid (∀ w',Kp ((w.alloc (.cells #[.slice At nt ct,.slice Ak nk ck,.int .i64 a,.int .i64 b,.int .i64 c,.int .i64 d,.int .i64 e,.int .i64 W,.int .i64 H,x,r,y] 47)).alloc (.cells #[.int .i64 T,.int .i64 Z,.slice (some ⟨gu,ou,none⟩) NU cp] 51)) w'→World.rangeAt w' w.heap.size 0 [.slice At nt ct,.slice Ak nk ck,.int .i64 a,.int .i64 b,.int .i64 c,.int .i64 d,.int .i64 e,.int .i64 W,.int .i64 H,x,r,y]∧World.rangeAt w' (w.heap.size+1) 0 [.int .i64 T,.int .i64 Z,.slice (some ⟨gu,ou,none⟩) NU cp]):=Lib.hid fun w' k=>by
  have r3:=range_fresh (w.alloc (.cells #[.slice At nt ct,.slice Ak nk ck,.int .i64 a,.int .i64 b,.int .i64 c,.int .i64 d,.int .i64 e,.int .i64 W,.int .i64 H,x,r,y] 47)) [.int .i64 T,.int .i64 Z,.slice (some ⟨gu,ou,none⟩) NU cp] 51
  rw [show (w.alloc (.cells #[.slice At nt ct,.slice Ak nk ck,.int .i64 a,.int .i64 b,.int .i64 c,.int .i64 d,.int .i64 e,.int .i64 W,.int .i64 H,x,r,y] 47)).heap.size=w.heap.size+1 by simp] at r3
  exact⟨range_keep (range_fresh w [.slice At nt ct,.slice Ak nk ck,.int .i64 a,.int .i64 b,.int .i64 c,.int .i64 d,.int .i64 e,.int .i64 W,.int .i64 H,x,r,y] 47) (((Kp.refl _).alloc _).trans k),range_keep r3 k⟩
 have I12:Hid ((Tryz.prog.info? 47).map (·.size)=some 12):=Lib.hid (by kernel_rfl)
 have I3:Hid ((Tryz.prog.info? 51).map (·.size)=some 3):=Lib.hid (by kernel_rfl)
 have I5:Hid ((Tryz.prog.info? 45).map (·.size)=some 5):=Lib.hid (by kernel_rfl)
 generalize (fun j=>pasB l m lt lr ld W us zs k j)=F at CO CF ⊢
 generalize lt.length=N at *
 clear hB hS hok hst hk1 hk hsd hq hs hnd hrow hc hcu hlen
 go_enter Tryz.func114,Tryz.ntmps114
 go_upto_region 1 with (fail)
 generalize ((w.alloc (.cells #[.slice At nt ct,.slice Ak nk ck,.int .i64 a,.int .i64 b,.int .i64 c,.int .i64 d,.int .i64 e,.int .i64 W,.int .i64 H,x,r,y] 47)).alloc (.cells #[.int .i64 T,.int .i64 Z,.slice (some ⟨gu,ou,none⟩) NU cp] 51))=W0 at *
 obtain⟨_,s3⟩:=H0.out W0 (Kp.refl _)
 have f2:=range_at s3 2 _ rfl
 obtain⟨v0,v1,v2,v3⟩:=UC.out W0 KA
 clear s3
 go_upto_region 2 with (fail)
 have kU:Kp W0 (W0.alloc (.cells #[.int .i64 zs,.int .i64 (k:Int),.int .i64 za,.int .i64 zt] 152)):=(Kp.refl W0).alloc _
 have u0:(W0.alloc (.cells #[.int .i64 zs,.int .i64 (k:Int),.int .i64 za,.int .i64 zt] 152)).cell? ⟨W0.heap.size,0,none⟩=some (.int .i64 zs):=by simp [go_sem]
 have u1:(W0.alloc (.cells #[.int .i64 zs,.int .i64 (k:Int),.int .i64 za,.int .i64 zt] 152)).cell? ⟨W0.heap.size,1,none⟩=some (.int .i64 (k:Int)):=by simp [go_sem]
 clear f2 v0 v1 v2 v3
 generalize W0.alloc (.cells #[.int .i64 zs,.int .i64 (k:Int),.int .i64 za,.int .i64 zt] 152)=W1 at *
 obtain⟨s12,s3⟩:=H0.out W1 kU
 have s5:=range_part s12 7 5
 go_wp2_with (first | ((with_reducible refine load_m s12 Tryz.underlying47 ?_ ?_ ?_ ?_ ?_);exact I12.out;rfl;rfl;rfl) | ((with_reducible refine load_m s3 Tryz.underlying51 ?_ ?_ ?_ ?_ ?_);exact I3.out;rfl;rfl;rfl) | ((with_reducible refine load_m s5 Tryz.underlying45 ?_ ?_ ?_ ?_ ?_);exact I5.out;rfl;rfl;rfl))
 refine(CO.out _ (HB.out.keep (KA.trans kU)) (HS.out.keep (KA.trans kU))).mono ?_
 rintro e1 w1 ⟨v1,rfl,o1,q1⟩
 have k1:=kU.trans q1
 have K1:=KA.trans k1
 have HO1:=Lib.hid (o1.base (KA.trans kU).size)
 have CF1:=Lib.hid (CF.out v1 w1 o1.rd (HQ.out.keep K1))
 obtain⟨A1,c1,hv1,_⟩:=o1.rd
 subst hv1
 clear o1 q1 s12 s3 s5 u0 u1
 obtain⟨s12,s3⟩:=H0.out w1 k1
 have s5:=range_part s12 7 5
 go_wp2_with (first | ((with_reducible refine load_m s12 Tryz.underlying47 ?_ ?_ ?_ ?_ ?_);exact I12.out;rfl;rfl;rfl) | ((with_reducible refine load_m s3 Tryz.underlying51 ?_ ?_ ?_ ?_ ?_);exact I3.out;rfl;rfl;rfl) | ((with_reducible refine load_m s5 Tryz.underlying45 ?_ ?_ ?_ ?_ ?_);exact I5.out;rfl;rfl;rfl))
 refine CF1.out.mono ?_
 rintro e2 w2 ⟨v2,rfl,o2,q2⟩
 have HO2:=Lib.hid (o2.base K1.size)
 have HO3:=Lib.hid (HO1.out.keep q2)
 clear o2
 go_wp2_with fail
 go_ret2
 exact⟨_,_,rfl,HO3.out,HO2.out,K1.trans q2⟩
theorem insB_far (n:Nat) (d:Int):spB 0 d ((n:Int) - 1)=insB n d:=by
 unfold spB insB
 congr 1
 ·exact decide_eq_decide.2 (by omega)
 ·exact decide_eq_decide.2 (by omega)
theorem farL_at {ok:Nat→Bool} {W H:Int} {src:List Nat} {N j:Nat} (h:j<N):(farL ok W H src N)[j]?=some ((farN ok W H src N j:Int) - 1):=by simp [farL,h]
set_option maxRecDepth 100000 in
set_option maxHeartbeats 4000000 in
theorem jIn_any (At Ak:Option Addr) (nt nk ct ck:Nat) (l:List Ter) (m:List Knd) (a b c d e W H:Int) (x r y:Value) (lt lr ld:List Int) (T Z:Int) (u:Value) (us:List Uni) (k0 k:Nat) (zs za zt:Int) (ls:List Int) (w:World) (hB:BrdAt w At Ak nt nk l m x r y lt lr ld) (hS:StaAt w u us) (hok:brdOk ⟨l,m,a,b,c,d,e⟩ W H lt lr ld=true) (hst:staOk ⟨l,m,a,b,c,d,e⟩ W H lt T Z us=true) (hk1:us[k0]?=some ⟨zs,(k:Int),za,zt⟩) (hk:k<m.length) (hsd:zs=0∨zs=1) (hza:za=-1∨(0≤za∧za<lt.length)) (qv:Value) (hq:RdI w qv ls) (hsr:srcOk W H ls=true) :
  Calls Tryz.prog 113 #[bv (.slice At nt ct) (.slice Ak nk ck) a b c d e W H x r y,sv T Z u,.int .i64 (k0:Int),qv] w fun e' w'=>e'=.returned (.bool (supU l m lt lr ld W us H d ls ⟨zs,(k:Int),za,zt⟩))∧Kp w w':=by
 obtain⟨p1,p2,p3,p4⟩:=mapOk_side (brdOk_map hok)
 have hlen:=mapOk_len (brdOk_map hok)
 have HB:=Lib.hid hB
 have HS:=Lib.hid hS
 obtain⟨hsn,hsb,hnd⟩:=srcOk_nat hsr
 have hs:=hsb lt.length hlen
 have HQ:Hid (RdI w qv (ints (srcN ls))):=Lib.hid (by rw [hsn];exact hq)
 have CU:=Lib.hid (fun (w:World) hB hS hq=>jUnit_any At Ak nt nk ct ck l m a b c d e W H x r y lt lr ld T Z u us k0 k zs za zt w hB hS hok hst hk1 hk hsd qv (srcN ls) hq hs hnd)
 have CI:Hid (∀ (z:Int) w,Calls Tryz.prog 63 #[.int .i64 z,.int .i64 0,.int .i64 d] w fun e w'=>e=.returned (.bool (spB 0 d z))∧w=w'):=Lib.hid fun z w=>l1In_sp z 0 d w
 have HE:Hid (supU l m lt lr ld W us H d ls ⟨zs,(k:Int),za,zt⟩=(decide (za ≠ -1) && insB (farN (fun j=>pasB l m lt lr ld W us zs k j) W H (srcN ls) lt.length za.toNat) d)):=Lib.hid (by
  have h:=way_far (ok:=(fun j=>pasB l m lt lr ld W us zs k j)) (src:=srcN ls) hlen hs za.toNat
  rw [← h]
  rfl)
 rw [HE.out]
 obtain⟨A,cp,rfl,hrow⟩:=hS.rd
 have hbN:=hS.b
 generalize hNU:us.length=NU at *
 have hkNU:k0<NU:=by rw [← hNU];exact(List.getElem?_eq_some_iff.1 hk1).1
 obtain⟨gu,ou,rfl,hc⟩:=hrow (by omega)
 have hcu:=hc k0 _ hk1
 have hk0':(k0:Int)<NU:=by omega
 have UC:Hid (∀ w',Kp w w'→w'.cell? ⟨gu,ou+k0*4,none⟩=some (.int .i64 zs)∧w'.cell? ⟨gu,ou+k0*4+1,none⟩=some (.int .i64 (k:Int))∧w'.cell? ⟨gu,ou+k0*4+2,none⟩=some (.int .i64 za)∧w'.cell? ⟨gu,ou+k0*4+3,none⟩=some (.int .i64 zt)):=Lib.hid fun w' k=>hcu.keep k
 have KA:Kp w ((w.alloc (.cells #[.slice At nt ct,.slice Ak nk ck,.int .i64 a,.int .i64 b,.int .i64 c,.int .i64 d,.int .i64 e,.int .i64 W,.int .i64 H,x,r,y] 47)).alloc (.cells #[.int .i64 T,.int .i64 Z,.slice (some ⟨gu,ou,none⟩) NU cp] 51)):=((Kp.refl w).alloc _).alloc _
 have H0:Hid (∀ w',Kp ((w.alloc (.cells #[.slice At nt ct,.slice Ak nk ck,.int .i64 a,.int .i64 b,.int .i64 c,.int .i64 d,.int .i64 e,.int .i64 W,.int .i64 H,x,r,y] 47)).alloc (.cells #[.int .i64 T,.int .i64 Z,.slice (some ⟨gu,ou,none⟩) NU cp] 51)) w'→World.rangeAt w' w.heap.size 0 [.slice At nt ct,.slice Ak nk ck,.int .i64 a,.int .i64 b,.int .i64 c,.int .i64 d,.int .i64 e,.int .i64 W,.int .i64 H,x,r,y]∧World.rangeAt w' (w.heap.size+1) 0 [.int .i64 T,.int .i64 Z,.slice (some ⟨gu,ou,none⟩) NU cp]):=Lib.hid fun w' k=>by
  have r3:=range_fresh (w.alloc (.cells #[.slice At nt ct,.slice Ak nk ck,.int .i64 a,.int .i64 b,.int .i64 c,.int .i64 d,.int .i64 e,.int .i64 W,.int .i64 H,x,r,y] 47)) [.int .i64 T,.int .i64 Z,.slice (some ⟨gu,ou,none⟩) NU cp] 51
  rw [show (w.alloc (.cells #[.slice At nt ct,.slice Ak nk ck,.int .i64 a,.int .i64 b,.int .i64 c,.int .i64 d,.int .i64 e,.int .i64 W,.int .i64 H,x,r,y] 47)).heap.size=w.heap.size+1 by simp] at r3
  exact⟨range_keep (range_fresh w [.slice At nt ct,.slice Ak nk ck,.int .i64 a,.int .i64 b,.int .i64 c,.int .i64 d,.int .i64 e,.int .i64 W,.int .i64 H,x,r,y] 47) (((Kp.refl _).alloc _).trans k),range_keep r3 k⟩
 have I12:Hid ((Tryz.prog.info? 47).map (·.size)=some 12):=Lib.hid (by kernel_rfl)
 have I3:Hid ((Tryz.prog.info? 51).map (·.size)=some 3):=Lib.hid (by kernel_rfl)
 have I5:Hid ((Tryz.prog.info? 45).map (·.size)=some 5):=Lib.hid (by kernel_rfl)
 have hsb2:=farN_bd (ok:=(fun j=>pasB l m lt lr ld W us zs k j)) (src:=srcN ls) hlen hs za.toNat
 have hA:=area_bd p1 p2 p3 p4
 have HFA:Hid (za.toNat<lt.length→(farL (fun j=>pasB l m lt lr ld W us zs k j) W H (srcN ls) lt.length)[za.toNat]?=some ((farN (fun j=>pasB l m lt lr ld W us zs k j) W H (srcN ls) lt.length za.toNat:Int) - 1)):=Lib.hid fun h=>farL_at h
 have hFL:(farL (fun j=>pasB l m lt lr ld W us zs k j) W H (srcN ls) lt.length).length=lt.length:=by simp [farL]
 generalize farN (fun j=>pasB l m lt lr ld W us zs k j) W H (srcN ls) lt.length za.toNat=n at *
 generalize farL (fun j=>pasB l m lt lr ld W us zs k j) W H (srcN ls) lt.length=FL at *
 generalize (fun j=>pasB l m lt lr ld W us zs k j)=F at *
 generalize lt.length=N at *
 have hN2:N≤100:=by omega
 clear hB hS hok hst hk1 hk hsd hq hs hsb hnd hsn hsr hrow hc hcu HE hlen hA p1 p2 p3 p4
 by_cases hu:za=-1
 ·subst hu
  rw [show (decide ((-1:Int) ≠ -1) && insB n d)=false by simp]
  clear CU CI HFA
  go_enter Tryz.func113,Tryz.ntmps113
  go_upto_region 1 with (fail)
  generalize ((w.alloc (.cells #[.slice At nt ct,.slice Ak nk ck,.int .i64 a,.int .i64 b,.int .i64 c,.int .i64 d,.int .i64 e,.int .i64 W,.int .i64 H,x,r,y] 47)).alloc (.cells #[.int .i64 T,.int .i64 Z,.slice (some ⟨gu,ou,none⟩) NU cp] 51))=W0 at *
  obtain⟨_,s3⟩:=H0.out W0 (Kp.refl _)
  have f2:=range_at s3 2 _ rfl
  obtain⟨v0,v1,v2,v3⟩:=UC.out W0 KA
  clear s3
  go_wp2_with fail
  go_ret
  exact⟨rfl,KA.alloc _⟩
 ·have hz2:0≤za∧za<N:=by omega
  rw [show decide (za ≠ -1)=true by simpa using hu,Bool.true_and,← insB_far]
  obtain⟨zn,rfl⟩:=Int.eq_ofNat_of_zero_le hz2.1
  have hzN:zn<N:=by omega
  have hzN':(zn:Int)<N:=by omega
  have hz0:¬ (zn:Int)<0:=by omega
  rw [Int.toNat_natCast] at HFA
  have HFB:=Lib.hid (HFA.out hzN)
  have CIn:=Lib.hid (fun w=>CI.out ((n:Int) - 1) w)
  generalize spB 0 d ((n:Int) - 1)=R at CIn ⊢
  generalize (n:Int) - 1=n1 at *
  clear hu hza hz2 HFA CI hsb2
  go_enter Tryz.func113,Tryz.ntmps113
  go_upto_region 1 with (fail)
  generalize ((w.alloc (.cells #[.slice At nt ct,.slice Ak nk ck,.int .i64 a,.int .i64 b,.int .i64 c,.int .i64 d,.int .i64 e,.int .i64 W,.int .i64 H,x,r,y] 47)).alloc (.cells #[.int .i64 T,.int .i64 Z,.slice (some ⟨gu,ou,none⟩) NU cp] 51))=W0 at *
  obtain⟨_,s3⟩:=H0.out W0 (Kp.refl _)
  have f2:=range_at s3 2 _ rfl
  obtain⟨v0,v1,v2,v3⟩:=UC.out W0 KA
  clear s3
  go_upto_region 2 with (fail)
  have kU:Kp W0 (W0.alloc (.cells #[.int .i64 zs,.int .i64 (k:Int),.int .i64 (zn:Int),.int .i64 zt] 152)):=(Kp.refl W0).alloc _
  have u2:(W0.alloc (.cells #[.int .i64 zs,.int .i64 (k:Int),.int .i64 (zn:Int),.int .i64 zt] 152)).cell? ⟨W0.heap.size,2,none⟩=some (.int .i64 (zn:Int)):=by simp [go_sem]
  clear f2 v0 v1 v2 v3
  generalize W0.alloc (.cells #[.int .i64 zs,.int .i64 (k:Int),.int .i64 (zn:Int),.int .i64 zt] 152)=W1 at *
  obtain⟨s12,s3⟩:=H0.out W1 kU
  have s5:=range_part s12 7 5
  go_wp2_with (first | ((with_reducible refine load_m s12 Tryz.underlying47 ?_ ?_ ?_ ?_ ?_);exact I12.out;rfl;rfl;rfl) | ((with_reducible refine load_m s3 Tryz.underlying51 ?_ ?_ ?_ ?_ ?_);exact I3.out;rfl;rfl;rfl) | ((with_reducible refine load_m s5 Tryz.underlying45 ?_ ?_ ?_ ?_ ?_);exact I5.out;rfl;rfl;rfl))
  refine(CU.out _ (HB.out.keep (KA.trans kU)) (HS.out.keep (KA.trans kU)) (HQ.out.keep (KA.trans kU))).mono ?_
  rintro e1 w1 ⟨vo,vf,rfl,_,of,q1⟩
  have k1:=kU.trans q1
  have K1:=KA.trans k1
  have u21:=q1.cell u2
  obtain⟨gf,cf,hvf,hcf⟩:=of.at HFB.out
  rw [hFL] at hvf
  subst hvf
  have dR:=range_at (H0.out w1 k1).1 5 _ rfl
  clear of q1 s12 s3 s5 u2
  go_upto_region 5 with (fail)
  have sg:w1.drew.cell? ⟨W0.heap.size,2,none⟩=some (.int .i64 (zn:Int))∧w1.drew.cell? ⟨gf,zn,none⟩=some (.int .i64 n1)∧w1.drew.cell? ⟨w.heap.size,5,none⟩=some (.int .i64 d)∧Kp w w1.drew:=⟨u21,hcf,dR,K1.drew⟩
  clear u21 hcf dR
  refine wp_region_held_drew (S:=(fun w'=>w'.cell? ⟨W0.heap.size,2,none⟩=some (.int .i64 (zn:Int))∧w'.cell? ⟨gf,zn,none⟩=some (.int .i64 n1)∧w'.cell? ⟨w.heap.size,5,none⟩=some (.int .i64 d)∧Kp w w')) (by kernel_rfl) ?_ (fun hHeld=>?_)
  ·assumption
  generalize w1.drew=V at *
  refine tk 0 ⟨some 28,_,_,_,_,_⟩ ?_ rfl (by kernel_rfl) (fun _ _ _ h=>h) (by rfl) ?_ (by assumption) ?_
  rotate_left
  ·intro w hSw;(try dsimp only at hSw);go_simp;(all_goals with_reducible rfl)
  try simp only [Act.put,sA,sB,sC]
  refine tk 1 ⟨some 29,_,_,_,_,_⟩ ?_ rfl (by kernel_rfl) (fun _ _ _ h=>h) (by rfl) ?_ (by assumption) ?_
  rotate_left
  ·intro w hSw;(try dsimp only at hSw);go_simp;(all_goals with_reducible rfl)
  try simp only [Act.put,sA,sB,sC]
  refine tk 2 ⟨some 30,_,_,_,_,_⟩ ?_ rfl (by kernel_rfl) (fun _ _ _ h=>h) (by rfl) ?_ (by assumption) ?_
  rotate_left
  ·intro w hSw;(try dsimp only at hSw);go_simp;(all_goals with_reducible rfl)
  try simp only [Act.put,sA,sB,sC]
  refine tk 3 ⟨some 31,_,_,_,_,_⟩ ?_ rfl (by kernel_rfl) (fun _ _ _ h=>h) (by rfl) ?_ (by assumption) ?_
  rotate_left
  ·intro w hSw;(try dsimp only at hSw);go_simp;(all_goals with_reducible rfl)
  try simp only [Act.put,sA,sB,sC]
  refine tk 4 ⟨some 32,_,_,_,_,_⟩ ?_ rfl (by kernel_rfl) (fun _ _ _ h=>h) (by rfl) ?_ (by assumption) ?_
  rotate_left
  ·intro w hSw;(try dsimp only at hSw);go_simp;(all_goals with_reducible rfl)
  try simp only [Act.put,sA,sB,sC]
  refine tk 5 ⟨some 33,_,_,_,_,_⟩ ?_ rfl (by kernel_rfl) (fun _ _ _ h=>h) (by rfl) ?_ (by assumption) ?_
  rotate_left
  ·intro w hSw;(try dsimp only at hSw);go_simp;(all_goals with_reducible rfl)
  try simp only [Act.put,sA,sB,sC]
  refine tk 6 ⟨some 34,_,_,_,_,_⟩ ?_ rfl (by kernel_rfl) (fun _ _ _ h=>h) (by rfl) ?_ (by assumption) ?_
  rotate_left
  ·intro w hSw;(try dsimp only at hSw);go_simp;(all_goals with_reducible rfl)
  try simp only [Act.put,sA,sB,sC]
  refine tk 7 ⟨some 35,_,_,_,_,_⟩ ?_ rfl (by kernel_rfl) (fun _ _ _ h=>h) (by rfl) ?_ (by assumption) ?_
  rotate_left
  ·intro w hSw;(try dsimp only at hSw);go_simp;(all_goals with_reducible rfl)
  try simp only [Act.put,sA,sB,sC]
  refine wpAnyH_ready (rs:=[8]) (by kernel_rfl) (by simp) ?_
  refine(AllReadyH.cons (o:=⟨some 36,_,_,_,_,_⟩) rfl (fun K hK=>?_) AllReadyH.nil)
  go_simp
  refine(CIn.out _).mono ?_
  rintro e2 w2 ⟨rfl,rfl⟩
  go_wp2_with fail
  refine hK.out _ _ ?_ (fun hHeld=>?_)
  ·(try dsimp only);(first | assumption)
  clear hK K
  try simp only [Act.put,sA,sB,sC]
  refine tk 9 ⟨some 8,_,_,_,_,_⟩ ?_ rfl (by kernel_rfl) (fun _ _ _ h=>h) (by rfl) ?_ (by assumption) ?_
  rotate_left
  ·intro w hSw;(try dsimp only at hSw);go_simp;(all_goals with_reducible rfl)
  try simp only [Act.put,sA,sB,sC]
  refine wpAnyH_done (by kernel_rfl) ?_ _
  go_wp2_with fail
  go_ret
  exact⟨rfl,hHeld.2.2.2⟩
end Go.Proofs.YtacgknllagdkoaaGreatDoor
