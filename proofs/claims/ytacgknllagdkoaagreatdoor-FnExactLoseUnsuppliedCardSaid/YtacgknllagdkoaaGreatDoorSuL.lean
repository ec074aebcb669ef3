/-
 LoseUnsupplied of the reference: a new state. Nothing that was there is changed. (Begun.)
-/
import Derived.Deep.Cut
import Derived.Test.YtacgknllagdkoaaGreatDoorLoV
import Derived.Maps.AppendAt
import Derived.Deep.RegionHeld3
import Derived.Test.YtacgknllagdkoaaGreatDoorSuY
import Derived.Test.YtacgknllagdkoaaGreatDoorQa
import Derived.Test.YtacgknllagdkoaaGreatDoorSuO
import Derived.Test.YtacgknllagdkoaaGreatDoorZnM
import Derived.Test.YtacgknllagdkoaaGreatDoorQe
import Derived.Test.YtacgknllagdkoaaGreatDoorQj
import Derived.Test.YtacgknllagdkoaaGreatDoorQm
import Derived.Test.YtacgknllagdkoaaGreatDoorQr
namespace Go.Proofs.YtacgknllagdkoaaGreatDoor
open Go.RowKit
/-- The units of a list that g tells lose a step. -/
def lsU (g:Uni→Bool) (us:List Uni):List Uni:=us.map (fun x=>if g x=true then loU x 1 else x)
theorem set_mid {A D:List Uni} {z y:Uni} {k:Nat} (h:A.length=k):(A++z :: D).set k y=A++y :: D:=by
 subst h
 simp
theorem loL_mid {A D:List Uni} {z:Uni} {k:Nat} {n:Int} (h:A.length=k):loL (A++z :: D) k n=A++loU z n :: D:=by
 rw [loL_at (x:=z) (by subst h;simp),set_mid h]
theorem fold_ls {f G:Uni→Bool} {us:List Uni}:∀ k:Nat,k≤us.length→(unL f us k).foldl (fun l i=>if G (unN us i)=true then loL l i.toNat 1 else l) us=lsU (fun z=>f z && G z) (us.take k)++us.drop k
 | 0,_=>by simp [unL_zero,lsU]
 | k+1,h=>by
  have ih:=fold_ls (f:=f) (G:=G) (us:=us) k (by omega)
  obtain⟨z,hz⟩:∃ z,us[k]?=some z:=⟨us[k],List.getElem?_eq_getElem (by omega)⟩
  have hn:unN us (k:Int)=z:=by unfold unN;simp [hz]
  have hd:us.drop k=z :: us.drop (k+1):=by
   obtain⟨hk,e⟩:=List.getElem?_eq_some_iff.1 hz
   rw [← e,List.getElem_cons_drop]
  have ht:us.take (k+1)=us.take k++[z]:=by rw [List.take_add_one,hz];rfl
  have hl:(lsU (fun z=>f z && G z) (us.take k)).length=k:=by
   unfold lsU
   rw [List.length_map,List.length_take]
   omega
  have hs:lsU (fun z=>f z && G z) (us.take (k+1))=lsU (fun z=>f z && G z) (us.take k)++[if (f z && G z)=true then loU z 1 else z]:=by
   rw [ht]
   simp [lsU]
  rw [hs,List.append_assoc]
  cases hf:f z
  ·rw [unL_no hz hf,ih,hd]
   simp
  ·rw [unL_yes hz hf,List.foldl_append,ih,List.foldl_cons,List.foldl_nil,hn,hd]
   cases hg:G z
   ·simp
   ·rw [if_pos rfl,Int.toNat_natCast,loL_mid hl]
    simp
theorem fold_all {f G:Uni→Bool} {us:List Uni}:(unL f us us.length).foldl (fun l i=>if G (unN us i)=true then loL l i.toNat 1 else l) us=lsU (fun z=>f z && G z) us:=by
 rw [fold_ls us.length (Nat.le_refl _)]
 simp
theorem lsU_len (g:Uni→Bool) (us:List Uni):(lsU g us).length=us.length:=by unfold lsU;rw [List.length_map]
/-- What a list under way keeps of the one it began with. -/
theorem fold_len {G:Int→Bool} {us:List Uni}:∀ L:List Int,(L.foldl (fun l i=>if G i=true then loL l i.toNat 1 else l) us).length=us.length:=by
 intro L
 induction L generalizing us with
 | nil=>rfl
 | cons x L ih =>
  rw [List.foldl_cons]
  split
  ·rw [ih,loL_len]
  ·rw [ih]
theorem loL_ti {us:List Uni} {q:Nat} (h:∀ z ∈ us,isI64 z.t∧0≤z.t):∀ z ∈ loL us q 1,isI64 z.t∧0≤z.t:=by
 intro x hx
 unfold loL at hx
 split at hx
 ·rename_i y hy
  rcases List.mem_or_eq_of_mem_set hx with h1 | rfl
  ·exact h x h1
  ·obtain⟨h1,h2⟩:=h y (List.mem_of_getElem? hy)
   unfold loU
   unfold isI64 at h1
   split
   ·exact⟨by unfold isI64;simp only;omega,by simp only;omega⟩
   ·exact⟨by unfold isI64;simp only;omega,by simp only;omega⟩
 ·exact h x hx
theorem fold_ti {G:Int→Bool}:∀ (L:List Int) (us:List Uni),(∀ z ∈ us,isI64 z.t∧0≤z.t)→∀ z ∈ L.foldl (fun l i=>if G i=true then loL l i.toNat 1 else l) us,isI64 z.t∧0≤z.t
 | [],us,h=>h
 | x :: L,us,h=>by
  rw [List.foldl_cons]
  refine fold_ti L _ ?_
  split
  ·exact loL_ti h
  ·exact h
theorem livS_range {w:World} {b:Nat} {v0 v1 v2:Value} (h:LivS w b v0 v1 v2):w.rangeAt b 0 [v0,v1,v2]:=fun j v hv=>by
 match j,hv with
 | 0,hv=>cases hv;exact h.1.1
 | 1,hv=>cases hv;exact h.2.1.1
 | 2,hv=>cases hv;exact h.2.2.1
theorem rdI_off {w w':World} {A:Option Addr} {n c G:Nat} {l:List Int} (h:RdI w (.slice A n c) l) (hG:∀ g o,A=some ⟨g,o,none⟩→g ≠ G) (hc:∀ b i v,b ≠ G→w.cell? ⟨b,i,none⟩=some v→w'.cell? ⟨b,i,none⟩=some v):RdI w' (.slice A n c) l:=by
 obtain⟨A',c',e,h⟩:=h
 simp only [Value.slice.injEq] at e
 obtain⟨rfl,hn,rfl⟩:=e
 subst hn
 refine⟨A,c,rfl,fun h0=>?_⟩
 obtain⟨g,o,rfl,hx⟩:=h h0
 exact⟨g,o,rfl,fun i x hi=>hc _ _ _ (hG g o rfl) (hx i x hi)⟩
theorem lsQ_parts {g:Uni→Bool} {us:List Uni} {q:Nat} {z:Uni} (hz:us[q]?=some z):us.drop q=z :: us.drop (q+1)∧us.take (q+1)=us.take q++[z]∧(lsU g (us.take q)).length=q:=by
 obtain⟨hk,e⟩:=List.getElem?_eq_some_iff.1 hz
 refine⟨by rw [← e,List.getElem_cons_drop],by rw [List.take_add_one,hz];rfl,?_⟩
 unfold lsU
 rw [List.length_map,List.length_take]
 omega
theorem lsQ_at {g:Uni→Bool} {us:List Uni} {q:Nat} {z:Uni} (hz:us[q]?=some z):(lsU g (us.take q)++us.drop q)[q]?=some z:=by
 obtain⟨h1,_,h3⟩:=lsQ_parts (g:=g) hz
 rw [h1,List.getElem?_append_right (by omega),h3]
 simp
theorem lsQ_yes {g:Uni→Bool} {us:List Uni} {q:Nat} {z:Uni} (hz:us[q]?=some z) (hg:g z=true):lsU g (us.take (q+1))++us.drop (q+1)=(lsU g (us.take q)++us.drop q).set q (loU z 1):=by
 obtain⟨h1,h2,h3⟩:=lsQ_parts (g:=g) hz
 rw [h1,set_mid h3,h2]
 simp [lsU,hg]
theorem lsQ_no {g:Uni→Bool} {us:List Uni} {q:Nat} {z:Uni} (hz:us[q]?=some z) (hg:g z=false):lsU g (us.take (q+1))++us.drop (q+1)=lsU g (us.take q)++us.drop q:=by
 obtain⟨h1,h2,h3⟩:=lsQ_parts (g:=g) hz
 rw [h1,h2]
 simp [lsU,hg]
theorem lsQ_end {g:Uni→Bool} {us:List Uni}:lsU g (us.take us.length)++us.drop us.length=lsU g us:=by simp
theorem OwnU.cells {w:World} {base G N c q:Nat} {us:List Uni} {x:Uni} (h:OwnU w base (.slice (some ⟨G,0,none⟩) N c) us) (hx:us[q]?=some x):UniAt w G (q*4) x:=by
 obtain⟨A2,c2,e2,h2⟩:=h.rd
 simp only [Value.slice.injEq] at e2
 obtain⟨e2,_,_⟩:=e2
 obtain⟨g2,o2,e3,h3⟩:=h2 (by have:=(List.getElem?_eq_some_iff.1 hx).1;omega)
 rw [← e2] at e3
 simp only [Option.some.injEq,Addr.mk.injEq] at e3
 obtain⟨rfl,rfl,_⟩:=e3
 have h4:=h3 q _ hx
 simp only [Nat.zero_add] at h4
 exact h4
theorem cellsU_unit:∀ (us:List Uni) (n:Nat) (x:Uni) (s k a t:Int),us[n]?=some x→((((cellsU us).set (n*4) (.int .i64 s)).set (n*4+1) (.int .i64 k)).set (n*4+2) (.int .i64 a)).set (n*4+3) (.int .i64 t)=cellsU (us.set n ⟨s,k,a,t⟩)
 | [],_,_,_,_,_,_,h=>by simp at h
 | y :: us,0,x,s,k,a,t,h=>rfl
 | y :: us,n+1,x,s,k,a,t,h=>by
  have:=cellsU_unit us n x s k a t (by simpa using h)
  have e0:(n+1)*4=n*4+1+1+1+1:=by omega
  have e1:(n+1)*4+1=n*4+1+1+1+1+1:=by omega
  have e2:(n+1)*4+2=n*4+2+1+1+1+1:=by omega
  have e3:(n+1)*4+3=n*4+3+1+1+1+1:=by omega
  rw [e1,e2,e3,e0,List.set_cons_succ]
  simp only [cellsU,List.set_cons_succ,this]
theorem OwnU.unit {w:World} {base G N c n:Nat} {us:List Uni} {x:Uni} {s k a t:Int} (h:OwnU w base (.slice (some ⟨G,0,none⟩) N c) us) (hx:us[n]?=some x):OwnU ((((w.setCell ⟨G,n*4,none⟩ (.int .i64 s)).setCell ⟨G,n*4+1,none⟩ (.int .i64 k)).setCell ⟨G,n*4+2,none⟩ (.int .i64 a)).setCell ⟨G,n*4+3,none⟩ (.int .i64 t)) base (.slice (some ⟨G,0,none⟩) N c) (us.set n ⟨s,k,a,t⟩):=by
 have hN:N=us.length:=by
  obtain⟨A,c',e⟩:=h.slice
  simp only [Value.slice.injEq] at e
  exact e.2.1
 subst hN
 have h2:=(World.ownsRow.stored (World.ownsRow.stored (World.ownsRow.stored (World.ownsRow.stored h (n*4) (.int .i64 s)).1 (n*4+1) (.int .i64 k)).1 (n*4+2) (.int .i64 a)).1 (n*4+3) (.int .i64 t)).1
 rw [cellsU_unit us n x s k a t hx] at h2
 unfold OwnU
 rw [List.length_set]
 exact h2
set_option maxRecDepth 100000 in
set_option maxHeartbeats 4000000 in
theorem jLose_any (At Ak:Option Addr) (nt nk ct ck:Nat) (l:List Ter) (m:List Knd) (a b c d e W H:Int) (x r y:Value) (lt lr ld:List Int) (T Z:Int) (g off N cp:Nat) (us:List Uni) (sd:Int) (Aq:Option Addr) (nq cq:Nat) (ls:List Int) (w:World) (hB:BrdAt w At Ak nt nk l m x r y lt lr ld) (hS:StaAt w (.slice (some ⟨g,off,none⟩) N cp) us) (hN:us.length=N) (hq:RdI w (.slice Aq nq cq) ls) (hok:brdOk ⟨l,m,a,b,c,d,e⟩ W H lt lr ld=true) (hst:staOk ⟨l,m,a,b,c,d,e⟩ W H lt T Z us=true) (hsr:srcOk W H ls=true) :
  Calls Tryz.prog 105 #[bv (.slice At nt ct) (.slice Ak nk ck) a b c d e W H x r y,sv T Z (.slice (some ⟨g,off,none⟩) N cp),.int .i64 sd,.slice Aq nq cq] w fun e' w'=>∃ v,e'=.returned (sv T Z v)∧OwnU w' w.heap.size v (lsU (fun z=>ofSide0 sd z && !supU l m lt lr ld W us H d ls z) us)∧Kp w w':=by
 have KA:Kp w (((w.alloc (.cells #[.slice At nt ct,.slice Ak nk ck,.int .i64 a,.int .i64 b,.int .i64 c,.int .i64 d,.int .i64 e,.int .i64 W,.int .i64 H,x,r,y] 47)).alloc (.cells #[.int .i64 T,.int .i64 Z,(.slice (some ⟨g,off,none⟩) N cp)] 51)).alloc (.cells #[.int .i64 0,.int .i64 0,.slice none 0 0] 51)):=(((Kp.refl w).alloc _).alloc _).alloc _
 have H0:Hid (∀ w',Kp (((w.alloc (.cells #[.slice At nt ct,.slice Ak nk ck,.int .i64 a,.int .i64 b,.int .i64 c,.int .i64 d,.int .i64 e,.int .i64 W,.int .i64 H,x,r,y] 47)).alloc (.cells #[.int .i64 T,.int .i64 Z,(.slice (some ⟨g,off,none⟩) N cp)] 51)).alloc (.cells #[.int .i64 0,.int .i64 0,.slice none 0 0] 51)) w'→World.rangeAt w' w.heap.size 0 [.slice At nt ct,.slice Ak nk ck,.int .i64 a,.int .i64 b,.int .i64 c,.int .i64 d,.int .i64 e,.int .i64 W,.int .i64 H,x,r,y]∧World.rangeAt w' (w.heap.size+1) 0 [.int .i64 T,.int .i64 Z,(.slice (some ⟨g,off,none⟩) N cp)]):=Lib.hid fun w' k=>by
   have r3:=range_fresh (w.alloc (.cells #[.slice At nt ct,.slice Ak nk ck,.int .i64 a,.int .i64 b,.int .i64 c,.int .i64 d,.int .i64 e,.int .i64 W,.int .i64 H,x,r,y] 47)) [.int .i64 T,.int .i64 Z,(.slice (some ⟨g,off,none⟩) N cp)] 51
   rw [show (w.alloc (.cells #[.slice At nt ct,.slice Ak nk ck,.int .i64 a,.int .i64 b,.int .i64 c,.int .i64 d,.int .i64 e,.int .i64 W,.int .i64 H,x,r,y] 47)).heap.size=w.heap.size+1 by simp] at r3
   exact⟨range_keep (range_fresh w [.slice At nt ct,.slice Ak nk ck,.int .i64 a,.int .i64 b,.int .i64 c,.int .i64 d,.int .i64 e,.int .i64 W,.int .i64 H,x,r,y] 47) ((((Kp.refl _).alloc _).alloc _).trans k),range_keep r3 (((Kp.refl _).alloc _).trans k)⟩
 have I12:Hid ((Tryz.prog.info? 47).map (·.size)=some 12):=Lib.hid (by kernel_rfl)
 have I3:Hid ((Tryz.prog.info? 51).map (·.size)=some 3):=Lib.hid (by kernel_rfl)
 have I5:Hid ((Tryz.prog.info? 45).map (·.size)=some 5):=Lib.hid (by kernel_rfl)
 have HB:=Lib.hid hB
 have HS:=Lib.hid hS
 have HQ:=Lib.hid hq
 have l0:LivS (((w.alloc (.cells #[.slice At nt ct,.slice Ak nk ck,.int .i64 a,.int .i64 b,.int .i64 c,.int .i64 d,.int .i64 e,.int .i64 W,.int .i64 H,x,r,y] 47)).alloc (.cells #[.int .i64 T,.int .i64 Z,(.slice (some ⟨g,off,none⟩) N cp)] 51)).alloc (.cells #[.int .i64 0,.int .i64 0,.slice none 0 0] 51)) (w.heap.size+1+1) (.int .i64 0) (.int .i64 0) (.slice none 0 0):=⟨by simp [go_sem],by simp [go_sem],by simp [go_sem]⟩
 have zA:(((w.alloc (.cells #[.slice At nt ct,.slice Ak nk ck,.int .i64 a,.int .i64 b,.int .i64 c,.int .i64 d,.int .i64 e,.int .i64 W,.int .i64 H,x,r,y] 47)).alloc (.cells #[.int .i64 T,.int .i64 Z,(.slice (some ⟨g,off,none⟩) N cp)] 51)).alloc (.cells #[.int .i64 0,.int .i64 0,.slice none 0 0] 51)).heap.size=w.heap.size+1+1+1:=by simp
 have CSO:=Lib.hid (fun (w:World) hS=>sOf_any T Z (.slice (some ⟨g,off,none⟩) N cp) us sd w hS (staOk_parts hst).2.1)
 have hu12:=(staOk_parts hst).2.1
 have hn6:=hS.b
 rw [hN] at hn6
 have CC:Hid (∀ w,RdU w (.slice (some ⟨g,off,none⟩) N cp) us→Calls Tryz.prog 162 #[sv T Z (.slice (some ⟨g,off,none⟩) N cp)] w fun e w'=>∃ A' c',e=.returned (sv T Z (.slice A' N c'))∧OwnU w' w.heap.size (.slice A' N c') us∧Kp w w'):=Lib.hid fun w h=>sOwn_any T Z g off N cp us w h hN hn6
 have hun:∀ z ∈ us,(z.s=0∨z.s=1)∧(∃ k:Nat,z.k=k∧k<m.length)∧(z.a=-1∨(0≤z.a∧z.a<lt.length)):=fun z hz=>by
  obtain⟨p1,p2,p3,p4⟩:=mapOk_side (brdOk_map hok)
  have hlen:=mapOk_len (brdOk_map hok)
  have hu:=(staOk_parts hst).2.2.1 z hz
  obtain⟨j,_,h5,h6',_,_⟩:=uniOk_kind hu
  refine⟨(uniOk_side hu).1,⟨j,h5,h6'⟩,?_⟩
  by_cases ha:z.a=-1
  ·exact .inl ha
  ·obtain⟨g1,g2⟩:=onI_true (uniOk_on hu ha)
   exact .inr ⟨g1,by omega⟩
 have hti:∀ z ∈ us,isI64 z.t∧0≤z.t:=fun z hz=>⟨(hS.i z hz).2.2.2,(uniOk_side ((staOk_parts hst).2.2.1 z hz)).2.2.1.1⟩
 have CI:Hid (∀ xx ∈ unL (ofSide0 sd) us us.length,∃ (k0:Nat) (z:Uni),xx=k0∧us[k0]?=some z∧∀ w,BrdAt w At Ak nt nk l m x r y lt lr ld→StaAt w (.slice (some ⟨g,off,none⟩) N cp) us→RdI w (.slice Aq nq cq) ls→Calls Tryz.prog 113 #[bv (.slice At nt ct) (.slice Ak nk ck) a b c d e W H x r y,sv T Z (.slice (some ⟨g,off,none⟩) N cp),.int .i64 xx,.slice Aq nq cq] w fun e' w'=>e'=.returned (.bool ((fun i=>supU l m lt lr ld W us H d ls (unN us i)) xx))∧Kp w w'):=Lib.hid fun xx hx=>by
  obtain⟨k0,z,_,rfl,hk1,_⟩:=unL_mem hx
  obtain⟨h1,⟨k,h2,h3⟩,h4⟩:=hun z (List.mem_of_getElem? hk1)
  refine⟨k0,z,rfl,hk1,fun w hB hS hq=>?_⟩
  obtain⟨zs,zk,za,zt⟩:=z
  simp only at h1 h2 h4
  subst h2
  have h:=jIn_any At Ak nt nk ct ck l m a b c d e W H x r y lt lr ld T Z (.slice (some ⟨g,off,none⟩) N cp) us k0 k zs za zt ls w hB hS hok hst hk1 h3 h1 h4 (.slice Aq nq cq) hq hsr
  have e:(fun i=>supU l m lt lr ld W us H d ls (unN us i)) (k0:Int)=supU l m lt lr ld W us H d ls ⟨zs,(k:Int),za,zt⟩:=by
   show supU l m lt lr ld W us H d ls (unN us (k0:Int))=_
   unfold unN
   simp [hk1]
  rw [e]
  exact h
 have HEND:Hid ((unL (ofSide0 sd) us us.length).foldl (fun Y i=>if (!(fun i=>supU l m lt lr ld W us H d ls (unN us i)) i)=true then loL Y i.toNat 1 else Y) us=lsU (fun z=>ofSide0 sd z && !supU l m lt lr ld W us H d ls z) us):=Lib.hid (fold_all (f:=ofSide0 sd) (G:=fun z=>!supU l m lt lr ld W us H d ls z))
 have hKM:(unL (ofSide0 sd) us us.length).length≤us.length:=unL_len _ _ _
 rw [← HEND.out]
 clear HEND hun
 generalize (fun i=>supU l m lt lr ld W us H d ls (unN us i))=G0 at *
 generalize unL (ofSide0 sd) us us.length=KL at *
 generalize hKL:KL.length=M at *
 have HKL:=Lib.hid hKL
 have HTI:=Lib.hid hti
 have HUN:=Lib.hid hN
 clear hB hS hq hok hst hsr hti
 go_enter Tryz.func105,Tryz.ntmps105
 go_upto_region 1 with (fail)
 generalize (((w.alloc (.cells #[.slice At nt ct,.slice Ak nk ck,.int .i64 a,.int .i64 b,.int .i64 c,.int .i64 d,.int .i64 e,.int .i64 W,.int .i64 H,x,r,y] 47)).alloc (.cells #[.int .i64 T,.int .i64 Z,(.slice (some ⟨g,off,none⟩) N cp)] 51)).alloc (.cells #[.int .i64 0,.int .i64 0,.slice none 0 0] 51))=W0 at *
 have k0:=Kp.refl W0
 obtain⟨s12,s3⟩:=H0.out W0 k0
 go_wp2_with (first | ((with_reducible refine load_m s3 Tryz.underlying51 ?_ ?_ ?_ ?_ ?_);exact I3.out;rfl;rfl;rfl))
 refine(CC.out _ (HS.out.keep KA).rd).mono ?_
 rintro e1 w1 ⟨A',c',rfl,o1,q1⟩
 by_cases hM0:us.length=0
 ·have hus:us=[]:=List.eq_nil_of_length_eq_zero hM0
  subst hus
  obtain rfl:M=0:=by
   have h9:([]:List Uni).length=0:=rfl
   omega
  obtain rfl:KL=[]:=List.eq_nil_of_length_eq_zero hKL
  have l1:=livS_keep q1 l0
  have kg:Kp w1 (w1.alloc (.cells #[.int .i64 T,.int .i64 Z,.slice A' N c'] 51)):=(Kp.refl w1).alloc _
  have O2:=Lib.hid (o1.keep kg)
  have l2:=livS_keep kg l1
  have m2:LivS (w1.alloc (.cells #[.int .i64 T,.int .i64 Z,.slice A' N c'] 51)) w1.heap.size (.int .i64 T) (.int .i64 Z) (.slice A' N c'):=⟨by simp [go_sem],by simp [go_sem],by simp [go_sem]⟩
  have K2:=q1.trans kg
  clear l0 l1 o1 s12 s3 q1 kg k0
  go_upto_region 2 with (fail)
  generalize (w1.alloc (.cells #[.int .i64 T,.int .i64 Z,.slice A' N c'] 51))=W2 at *
  obtain⟨s12,s3⟩:=H0.out W2 K2
  go_wp2_with (first | ((with_reducible refine load_m s3 Tryz.underlying51 ?_ ?_ ?_ ?_ ?_);exact I3.out;rfl;rfl;rfl))
  refine(CSO.out _ (HS.out.keep (KA.trans K2))).mono ?_
  rintro e3 w3 ⟨v3,rfl,o3,q3⟩
  obtain⟨A4,c4,hv4⟩:=o3.slice
  have K3:=K2.trans q3
  have O3:=Lib.hid (O2.out.keep q3)
  have HL0:Hid (LivS w3 (w.heap.size+1+1) (.int .i64 0) (.int .i64 0) (.slice none 0 0)∧LivS w3 w1.heap.size (.int .i64 T) (.int .i64 Z) (.slice A' N c')):=Lib.hid ⟨livS_keep q3 l2,livS_keep q3 m2⟩
  subst hv4
  clear o3 s12 s3 O2 l2 m2 q3 K2
  rw [show ([]:List Int).length=0 from rfl]
  go_wp2_with fail
  go_loopw [11,18] (fun _ i wx=>i=.int .i64 0∧Hid (OwnU wx W0.heap.size (.slice A' N c') [])∧Hid (LivS wx (w.heap.size+1+1) (.int .i64 0) (.int .i64 0) (.slice none 0 0)∧LivS wx w1.heap.size (.int .i64 T) (.int .i64 Z) (.slice A' N c'))∧Kp W0 wx) (fun _ _ _=>0)
  case atStart=>exact⟨rfl,O3,HL0,K3⟩
  case round =>
   obtain⟨rfl,HI,HLV,kr⟩:=hrel
   have l9:=HLV.out.1
   have s9:=livS_range HLV.out.2
   go_wp2_with (first | ((with_reducible refine load_m s9 Tryz.underlying51 ?_ ?_ ?_ ?_ ?_);exact I3.out;rfl;rfl;rfl))
   refine bodyPost_ret (v:=sv T Z (.slice A' N c')) (by simp [results,Tryz.results105,go_sem, *]) rfl ⟨_,rfl,?_,?_⟩
   ·have n0:=HI.out.not (g:=w.heap.size+1+1) (by omega)
    exact(((HI.out.far n0 _).far n0 _).far n0 _).base (by omega)
   ·exact(((KA.trans kr).setCell (by simp <;> omega) _).setCell (by simp <;> omega) _).setCell (by simp <;> omega) _
 obtain⟨G,rfl,hG,hNN⟩:=o1.block_at (by omega)
 clear hNN
 have l1:=livS_keep q1 l0
 have hz1:=q1.size
 have hG1:=(World.ownsRow.lt o1 G rfl).2
 have zW2:(w1.alloc (.cells #[.int .i64 T,.int .i64 Z,.slice (some ⟨G,0,none⟩) N c'] 51)).heap.size=w1.heap.size+1:=by simp
 have kg:Kp w1 (w1.alloc (.cells #[.int .i64 T,.int .i64 Z,.slice (some ⟨G,0,none⟩) N c'] 51)):=(Kp.refl w1).alloc _
 have O2:=Lib.hid (o1.keep kg)
 have l2:=livS_keep kg l1
 have m2:LivS (w1.alloc (.cells #[.int .i64 T,.int .i64 Z,.slice (some ⟨G,0,none⟩) N c'] 51)) w1.heap.size (.int .i64 T) (.int .i64 Z) (.slice (some ⟨G,0,none⟩) N c'):=⟨by simp [go_sem],by simp [go_sem],by simp [go_sem]⟩
 have K2:=q1.trans kg
 clear l0 l1 o1 s12 s3 q1 kg k0
 go_upto_region 2 with (fail)
 generalize (w1.alloc (.cells #[.int .i64 T,.int .i64 Z,.slice (some ⟨G,0,none⟩) N c'] 51))=W2 at *
 obtain⟨s12,s3⟩:=H0.out W2 K2
 go_wp2_with (first | ((with_reducible refine load_m s3 Tryz.underlying51 ?_ ?_ ?_ ?_ ?_);exact I3.out;rfl;rfl;rfl))
 refine(CSO.out _ (HS.out.keep (KA.trans K2))).mono ?_
 rintro e3 w3 ⟨v3,rfl,o3,q3⟩
 obtain⟨A4,c4,hv4⟩:=o3.slice
 have HK:=Lib.hid o3.rd
 have K3:=K2.trans q3
 have O3:=Lib.hid (O2.out.keep q3)
 have l3:=livS_keep q3 l2
 have m3:=livS_keep q3 m2
 have z3:=cell_lt m3.1.1
 subst hv4
 have HA4:Hid (∀ g o,A4=some ⟨g,o,none⟩→g ≠ G):=Lib.hid fun g o e=>by
  subst e
  have h1:=(World.ownsRow.lt o3 g rfl).1
  omega
 clear o3 s12 s3 O2 l2 m2 q3 K2
 rw [hKL] at HK
 go_wp2_with fail
 have HI0:Hid (OwnU w3 W0.heap.size (.slice (some ⟨G,0,none⟩) N c') ((KL.take 0).foldl (fun Y i=>if (!G0 i)=true then loL Y i.toNat 1 else Y) us)):=Lib.hid (by simpa using O3.out)
 have HL0:Hid (LivS w3 (w.heap.size+1+1) (.int .i64 0) (.int .i64 0) (.slice none 0 0)∧LivS w3 w1.heap.size (.int .i64 T) (.int .i64 Z) (.slice (some ⟨G,0,none⟩) N c')):=Lib.hid ⟨l3,m3⟩
 clear l3 m3 O3
 go_loopw [11,18] (fun _ i wx=>∃ q:Nat,q≤M∧i=.int .i64 q∧Hid (OwnU wx W0.heap.size (.slice (some ⟨G,0,none⟩) N c') ((KL.take q).foldl (fun Y i=>if (!G0 i)=true then loL Y i.toNat 1 else Y) us))∧Hid (LivS wx (w.heap.size+1+1) (.int .i64 0) (.int .i64 0) (.slice none 0 0)∧LivS wx w1.heap.size (.int .i64 T) (.int .i64 Z) (.slice (some ⟨G,0,none⟩) N c'))∧Hid (RdI wx (.slice A4 M c4) KL)∧Kp W0 wx) (fun _ i _=>M - (intOf i).toNat)
 case atStart=>exact⟨0,by omega,rfl,HI0,HL0,HK,K3⟩
 case round =>
  obtain⟨q,hqn,rfl,HI,HLV,HRD,kr⟩:=hrel
  have kR:=KA.trans kr
  obtain⟨s12,s3⟩:=H0.out wr kr
  by_cases hlt:q<M
  ·have hlt':(q:Int)<M:=by omega
   obtain⟨A5,c5,e5,hcell⟩:=HRD.out
   obtain⟨rfl,rfl⟩:A4=A5∧c4=c5:=by
    simp only [Value.slice.injEq] at e5
    exact⟨e5.1,e5.2.2⟩
   obtain⟨g4,o4,rfl,hcl⟩:=hcell (by rw [HKL.out];omega)
   obtain⟨x0,hx0⟩:∃ z,KL[q]?=some z:=⟨KL[q]'(by have:=HKL.out;omega),List.getElem?_eq_getElem _⟩
   have a0:=hcl q _ hx0
   obtain⟨n0,z0,rfl,hz0,hci⟩:=CI.out x0 (List.mem_of_getElem? hx0)
   have CQ:=Lib.hid hci
   have HTK:Hid ((KL.take (q+1)).foldl (fun Y i=>if (!G0 i)=true then loL Y i.toNat 1 else Y) us=(if (!G0 (n0:Int))=true then loL ((KL.take q).foldl (fun Y i=>if (!G0 i)=true then loL Y i.toNat 1 else Y) us) n0 1 else (KL.take q).foldl (fun Y i=>if (!G0 i)=true then loL Y i.toNat 1 else Y) us)):=Lib.hid (by
    rw [List.take_add_one,hx0]
    show List.foldl _ us (List.take q KL++[(n0:Int)])=_
    rw [List.foldl_append,List.foldl_cons,List.foldl_nil,Int.toNat_natCast])
   have HFL:Hid (((KL.take q).foldl (fun Y i=>if (!G0 i)=true then loL Y i.toNat 1 else Y) us).length=N):=Lib.hid ((fold_len (G:=fun i=>!G0 i) (us:=us) (KL.take q)).trans HUN.out)
   have hn0:n0<us.length:=(List.getElem?_eq_some_iff.1 hz0).1
   obtain⟨y0,hy0⟩:∃ y,((KL.take q).foldl (fun Y i=>if (!G0 i)=true then loL Y i.toNat 1 else Y) us)[n0]?=some y:=⟨_,List.getElem?_eq_getElem (by rw [HFL.out];have:=HUN.out;omega)⟩
   have HY:=Lib.hid hy0
   have HYT:=Lib.hid (fold_ti (G:=fun i=>!G0 i) (KL.take q) us HTI.out y0 (List.mem_of_getElem? hy0))
   clear hcell hcl hx0 e5 hci hz0 hn0 hy0
   cases hG:G0 (n0:Int)
   ·rw [hG] at CQ HTK
    simp only [Bool.not_false,if_true] at HTK
    clear hG
    go_wp2_with (first | ((with_reducible refine load_m s12 Tryz.underlying47 ?_ ?_ ?_ ?_ ?_);exact I12.out;rfl;rfl;rfl) | ((with_reducible refine load_m s3 Tryz.underlying51 ?_ ?_ ?_ ?_ ?_);exact I3.out;rfl;rfl;rfl))
    refine(CQ.out _ (HB.out.keep kR) (HS.out.keep kR) (HQ.out.keep kR)).mono ?_
    rintro e6 w6 ⟨rfl,q6⟩
    have k6:=kr.trans q6
    have HI6:=Lib.hid (HI.out.keep q6)
    have HR6:=Lib.hid (HRD.out.keep q6)
    have HL6:Hid (LivS w6 (w.heap.size+1+1) (.int .i64 0) (.int .i64 0) (.slice none 0 0)∧LivS w6 w1.heap.size (.int .i64 T) (.int .i64 Z) (.slice (some ⟨G,0,none⟩) N c')):=Lib.hid ⟨livS_keep q6 HLV.out.1,livS_keep q6 HLV.out.2⟩
    have s9:=livS_range HL6.out.2
    clear HI HRD HLV s12 s3 a0 q6
    go_wp2_with (first | ((with_reducible refine load_m s9 Tryz.underlying51 ?_ ?_ ?_ ?_ ?_);exact I3.out;rfl;rfl;rfl))
    refine(sLose_any T Z G N c' n0 W0.heap.size _ y0 1 w6 HI6.out HFL.out HY.out HYT.out ⟨by omega,by omega⟩).mono ?_
    rintro e7 w7 ⟨⟨v7,rfl⟩,o7,hk7,hl7,hc7⟩
    have k7:=hk7 W0 k6 hG
    have HI7:=Lib.hid o7
    have HL7:Hid (LivS w7 (w.heap.size+1+1) (.int .i64 0) (.int .i64 0) (.slice none 0 0)∧LivS w7 w1.heap.size (.int .i64 T) (.int .i64 Z) (.slice (some ⟨G,0,none⟩) N c')):=Lib.hid ⟨hl7 _ _ _ _ (by omega) HL6.out.1,hl7 _ _ _ _ (by omega) HL6.out.2⟩
    have HR7:=Lib.hid (rdI_off HR6.out HA4.out hc7)
    clear hk7 hl7 hc7 o7 s9
    go_wp2_with fail
    go_roundw
    case rel=>exact⟨q+1,by omega,by go_num,by rw [HTK.out];exact HI7,HL7,HR7,k7⟩
    case measure=>simp [intOf];omega
   ·rw [hG] at CQ HTK
    simp only [Bool.not_true,Bool.false_eq_true,if_false] at HTK
    clear hG
    go_wp2_with (first | ((with_reducible refine load_m s12 Tryz.underlying47 ?_ ?_ ?_ ?_ ?_);exact I12.out;rfl;rfl;rfl) | ((with_reducible refine load_m s3 Tryz.underlying51 ?_ ?_ ?_ ?_ ?_);exact I3.out;rfl;rfl;rfl))
    refine(CQ.out _ (HB.out.keep kR) (HS.out.keep kR) (HQ.out.keep kR)).mono ?_
    rintro e6 w6 ⟨rfl,q6⟩
    have HI6:=Lib.hid (HI.out.keep q6)
    have HR6:=Lib.hid (HRD.out.keep q6)
    have HL6:Hid (LivS w6 (w.heap.size+1+1) (.int .i64 0) (.int .i64 0) (.slice none 0 0)∧LivS w6 w1.heap.size (.int .i64 T) (.int .i64 Z) (.slice (some ⟨G,0,none⟩) N c')):=Lib.hid ⟨livS_keep q6 HLV.out.1,livS_keep q6 HLV.out.2⟩
    clear HI HRD HLV s12 s3 a0
    go_wp2_with fail
    go_roundw
    case rel=>exact⟨q+1,by omega,by go_num,by rw [HTK.out];exact HI6,HL6,HR6,kr.trans q6⟩
    case measure=>simp [intOf];omega
  ·obtain rfl:M=q:=by omega
   have HI9:=HI.out
   rw [List.take_of_length_le (by rw [HKL.out];omega)] at HI9
   have HI8:=Lib.hid HI9
   have l9:=HLV.out.1
   have s9:=livS_range HLV.out.2
   clear HI9 HI
   go_wp2_with (first | ((with_reducible refine load_m s9 Tryz.underlying51 ?_ ?_ ?_ ?_ ?_);exact I3.out;rfl;rfl;rfl))
   refine bodyPost_ret (v:=sv T Z (.slice (some ⟨G,0,none⟩) N c')) (by simp [results,Tryz.results105,go_sem, *]) rfl ⟨_,rfl,?_,?_⟩
   ·have n0:=HI8.out.not (g:=w.heap.size+1+1) (by omega)
    exact(((HI8.out.far n0 _).far n0 _).far n0 _).base (by omega)
   ·exact(((KA.trans kr).setCell (by simp <;> omega) _).setCell (by simp <;> omega) _).setCell (by simp <;> omega) _
set_option maxRecDepth 100000 in
set_option maxHeartbeats 4000000 in
theorem specLoseUnsupplied_any (At Ak:Option Addr) (nt nk ct ck:Nat) (l:List Ter) (m:List Knd) (a b c d e W H:Int) (x r y:Value) (lt lr ld:List Int) (T Z:Int) (g off N cp:Nat) (us:List Uni) (sd:Int) (Aq:Option Addr) (nq cq:Nat) (ls:List Int) (w:World) (hB:BrdAt w At Ak nt nk l m x r y lt lr ld) (hS:StaAt w (.slice (some ⟨g,off,none⟩) N cp) us) (hN:us.length=N) (hq:RdI w (.slice Aq nq cq) ls) (hql:ls.length≤1048576) :
  Calls Tryz.prog 50 #[bv (.slice At nt ct) (.slice Ak nk ck) a b c d e W H x r y,sv T Z (.slice (some ⟨g,off,none⟩) N cp),.int .i64 sd,.slice Aq nq cq] w (StPost (((brdOk ⟨l,m,a,b,c,d,e⟩ W H lt lr ld && staOk ⟨l,m,a,b,c,d,e⟩ W H lt T Z us) && spB 0 1 sd) && srcOk W H ls) T Z (lsU (fun z=>ofSide0 sd z && !supU l m lt lr ld W us H d ls z) us) w):=by
 have KA:Kp w (((w.alloc (.cells #[.slice At nt ct,.slice Ak nk ck,.int .i64 a,.int .i64 b,.int .i64 c,.int .i64 d,.int .i64 e,.int .i64 W,.int .i64 H,x,r,y] 47)).alloc (.cells #[.int .i64 T,.int .i64 Z,(.slice (some ⟨g,off,none⟩) N cp)] 51)).alloc (.cells #[.int .i64 0,.int .i64 0,.slice none 0 0] 51)):=(((Kp.refl w).alloc _).alloc _).alloc _
 have hnq:ls.length=nq:=by
  obtain⟨A',c',e1,_⟩:=hq
  simp only [Value.slice.injEq] at e1
  exact e1.2.1.symm
 have H0:Hid (∀ w',Kp (((w.alloc (.cells #[.slice At nt ct,.slice Ak nk ck,.int .i64 a,.int .i64 b,.int .i64 c,.int .i64 d,.int .i64 e,.int .i64 W,.int .i64 H,x,r,y] 47)).alloc (.cells #[.int .i64 T,.int .i64 Z,(.slice (some ⟨g,off,none⟩) N cp)] 51)).alloc (.cells #[.int .i64 0,.int .i64 0,.slice none 0 0] 51)) w'→World.rangeAt w' w.heap.size 0 [.slice At nt ct,.slice Ak nk ck,.int .i64 a,.int .i64 b,.int .i64 c,.int .i64 d,.int .i64 e,.int .i64 W,.int .i64 H,x,r,y]∧World.rangeAt w' (w.heap.size+1) 0 [.int .i64 T,.int .i64 Z,(.slice (some ⟨g,off,none⟩) N cp)]):=Lib.hid fun w' k=>by
   have r3:=range_fresh (w.alloc (.cells #[.slice At nt ct,.slice Ak nk ck,.int .i64 a,.int .i64 b,.int .i64 c,.int .i64 d,.int .i64 e,.int .i64 W,.int .i64 H,x,r,y] 47)) [.int .i64 T,.int .i64 Z,(.slice (some ⟨g,off,none⟩) N cp)] 51
   rw [show (w.alloc (.cells #[.slice At nt ct,.slice Ak nk ck,.int .i64 a,.int .i64 b,.int .i64 c,.int .i64 d,.int .i64 e,.int .i64 W,.int .i64 H,x,r,y] 47)).heap.size=w.heap.size+1 by simp] at r3
   exact⟨range_keep (range_fresh w [.slice At nt ct,.slice Ak nk ck,.int .i64 a,.int .i64 b,.int .i64 c,.int .i64 d,.int .i64 e,.int .i64 W,.int .i64 H,x,r,y] 47) ((((Kp.refl _).alloc _).alloc _).trans k),range_keep r3 (((Kp.refl _).alloc _).trans k)⟩
 have I12:Hid ((Tryz.prog.info? 47).map (·.size)=some 12):=Lib.hid (by kernel_rfl)
 have I3:Hid ((Tryz.prog.info? 51).map (·.size)=some 3):=Lib.hid (by kernel_rfl)
 have I5:Hid ((Tryz.prog.info? 45).map (·.size)=some 5):=Lib.hid (by kernel_rfl)
 have HB:=Lib.hid hB
 have HS:=Lib.hid hS
 have HQ:=Lib.hid hq
 have l0:LivS (((w.alloc (.cells #[.slice At nt ct,.slice Ak nk ck,.int .i64 a,.int .i64 b,.int .i64 c,.int .i64 d,.int .i64 e,.int .i64 W,.int .i64 H,x,r,y] 47)).alloc (.cells #[.int .i64 T,.int .i64 Z,(.slice (some ⟨g,off,none⟩) N cp)] 51)).alloc (.cells #[.int .i64 0,.int .i64 0,.slice none 0 0] 51)) (w.heap.size+1+1) (.int .i64 0) (.int .i64 0) (.slice none 0 0):=⟨by simp [go_sem],by simp [go_sem],by simp [go_sem]⟩
 have zA:(((w.alloc (.cells #[.slice At nt ct,.slice Ak nk ck,.int .i64 a,.int .i64 b,.int .i64 c,.int .i64 d,.int .i64 e,.int .i64 W,.int .i64 H,x,r,y] 47)).alloc (.cells #[.int .i64 T,.int .i64 Z,(.slice (some ⟨g,off,none⟩) N cp)] 51)).alloc (.cells #[.int .i64 0,.int .i64 0,.slice none 0 0] 51)).heap.size=w.heap.size+1+1+1:=by simp
 have CG:=Lib.hid (fun (w:World) hB hS=>sGood_any At Ak nt nk ct ck l m a b c d e W H x r y lt lr ld T Z (.slice (some ⟨g,off,none⟩) N cp) us w hB hS)
 have CL:Hid (∀ w,Calls Tryz.prog 63 #[.int .i64 sd,.int .i64 0,.int .i64 1] w fun e w'=>e=.returned (.bool (spB 0 1 sd))∧Kp w w'):=Lib.hid fun w=>(l1In_sp sd 0 1 w).mono fun _ _ h=>⟨h.1,h.2 ▸ Kp.refl _⟩
 cases hg:brdOk ⟨l,m,a,b,c,d,e⟩ W H lt lr ld && staOk ⟨l,m,a,b,c,d,e⟩ W H lt T Z us
 ·rw [hg] at CG
  rw [Bool.false_and,Bool.false_and]
  clear hg hB hS hq hql hnq CL hN
  go_enter Tryz.func50,Tryz.ntmps50
  go_upto_region 1 with (fail)
  generalize (((w.alloc (.cells #[.slice At nt ct,.slice Ak nk ck,.int .i64 a,.int .i64 b,.int .i64 c,.int .i64 d,.int .i64 e,.int .i64 W,.int .i64 H,x,r,y] 47)).alloc (.cells #[.int .i64 T,.int .i64 Z,(.slice (some ⟨g,off,none⟩) N cp)] 51)).alloc (.cells #[.int .i64 0,.int .i64 0,.slice none 0 0] 51))=W0 at *
  have k0:=Kp.refl W0
  obtain⟨s12,s3⟩:=H0.out W0 k0
  go_wp2_with (first | ((with_reducible refine load_m s12 Tryz.underlying47 ?_ ?_ ?_ ?_ ?_);exact I12.out;rfl;rfl;rfl) | ((with_reducible refine load_m s3 Tryz.underlying51 ?_ ?_ ?_ ?_ ?_);exact I3.out;rfl;rfl;rfl))
  refine(CG.out _ (HB.out.keep (KA.trans k0)) (HS.out.keep (KA.trans k0))).mono ?_
  rintro e1 w1 ⟨rfl,q1⟩
  have k1:=k0.trans q1
  have l1:=livS_keep q1 l0
  clear q1 s12 s3 l0
  obtain⟨s12,s3⟩:=H0.out w1 k1
  go_wp2_with (first | ((with_reducible refine load_m s12 Tryz.underlying47 ?_ ?_ ?_ ?_ ?_);exact I12.out;rfl;rfl;rfl) | ((with_reducible refine load_m s3 Tryz.underlying51 ?_ ?_ ?_ ?_ ?_);exact I3.out;rfl;rfl;rfl))
  have KE:=KA.trans k1
  have hzE:=KA.size
  exact bodyPost_ret (v:=.tuple #[sv 0 0 (.slice none 0 0),.bool false]) (by simp [results,Tryz.results50,go_sem, *]) rfl (StPost.no (((KE.setCell (by simp <;> omega) _).setCell (by simp <;> omega) _).setCell (by simp <;> omega) _))
 ·rw [hg] at CG
  rw [Bool.true_and]
  simp only [Bool.and_eq_true] at hg
  obtain⟨hok,hst⟩:=hg
  have CJ:=Lib.hid (fun (w:World) hq=>jSources_any At Ak nt nk ct ck l m a b c d e W H x r y lt lr ld Aq nq cq ls w hq hnq (by omega) hok)
  cases hsd0:spB 0 1 sd
  ·rw [hsd0] at CL
   rw [Bool.false_and]
   clear hB hS hq hql hnq hok hst hsd0 CJ hN
   go_enter Tryz.func50,Tryz.ntmps50
   go_upto_region 1 with (fail)
   generalize (((w.alloc (.cells #[.slice At nt ct,.slice Ak nk ck,.int .i64 a,.int .i64 b,.int .i64 c,.int .i64 d,.int .i64 e,.int .i64 W,.int .i64 H,x,r,y] 47)).alloc (.cells #[.int .i64 T,.int .i64 Z,(.slice (some ⟨g,off,none⟩) N cp)] 51)).alloc (.cells #[.int .i64 0,.int .i64 0,.slice none 0 0] 51))=W0 at *
   have k0:=Kp.refl W0
   obtain⟨s12,s3⟩:=H0.out W0 k0
   go_wp2_with (first | ((with_reducible refine load_m s12 Tryz.underlying47 ?_ ?_ ?_ ?_ ?_);exact I12.out;rfl;rfl;rfl) | ((with_reducible refine load_m s3 Tryz.underlying51 ?_ ?_ ?_ ?_ ?_);exact I3.out;rfl;rfl;rfl))
   refine(CG.out _ (HB.out.keep (KA.trans k0)) (HS.out.keep (KA.trans k0))).mono ?_
   rintro e1 w1 ⟨rfl,q1⟩
   have k1:=k0.trans q1
   have l1:=livS_keep q1 l0
   clear q1 s12 s3 l0
   obtain⟨s12,s3⟩:=H0.out w1 k1
   go_wp2_with (first | ((with_reducible refine load_m s12 Tryz.underlying47 ?_ ?_ ?_ ?_ ?_);exact I12.out;rfl;rfl;rfl) | ((with_reducible refine load_m s3 Tryz.underlying51 ?_ ?_ ?_ ?_ ?_);exact I3.out;rfl;rfl;rfl))
   refine(CL.out _).mono ?_
   rintro e2 w2 ⟨rfl,q2⟩
   have k2:=k1.trans q2
   have l2:=livS_keep q2 l1
   clear q2 s12 s3 l1
   obtain⟨s12,s3⟩:=H0.out w2 k2
   go_wp2_with (first | ((with_reducible refine load_m s12 Tryz.underlying47 ?_ ?_ ?_ ?_ ?_);exact I12.out;rfl;rfl;rfl) | ((with_reducible refine load_m s3 Tryz.underlying51 ?_ ?_ ?_ ?_ ?_);exact I3.out;rfl;rfl;rfl))
   have KE:=KA.trans k2
   have hzE:=KA.size
   exact bodyPost_ret (v:=.tuple #[sv 0 0 (.slice none 0 0),.bool false]) (by simp [results,Tryz.results50,go_sem, *]) rfl (StPost.no (((KE.setCell (by simp <;> omega) _).setCell (by simp <;> omega) _).setCell (by simp <;> omega) _))
  ·rw [hsd0] at CL
   rw [Bool.true_and]
   cases hsr:srcOk W H ls
   ·rw [hsr] at CJ
    clear hB hS hq hql hnq hok hst hsd0 hsr hN
    go_enter Tryz.func50,Tryz.ntmps50
    go_upto_region 1 with (fail)
    generalize (((w.alloc (.cells #[.slice At nt ct,.slice Ak nk ck,.int .i64 a,.int .i64 b,.int .i64 c,.int .i64 d,.int .i64 e,.int .i64 W,.int .i64 H,x,r,y] 47)).alloc (.cells #[.int .i64 T,.int .i64 Z,(.slice (some ⟨g,off,none⟩) N cp)] 51)).alloc (.cells #[.int .i64 0,.int .i64 0,.slice none 0 0] 51))=W0 at *
    have k0:=Kp.refl W0
    obtain⟨s12,s3⟩:=H0.out W0 k0
    go_wp2_with (first | ((with_reducible refine load_m s12 Tryz.underlying47 ?_ ?_ ?_ ?_ ?_);exact I12.out;rfl;rfl;rfl) | ((with_reducible refine load_m s3 Tryz.underlying51 ?_ ?_ ?_ ?_ ?_);exact I3.out;rfl;rfl;rfl))
    refine(CG.out _ (HB.out.keep (KA.trans k0)) (HS.out.keep (KA.trans k0))).mono ?_
    rintro e1 w1 ⟨rfl,q1⟩
    have k1:=k0.trans q1
    have l1:=livS_keep q1 l0
    clear q1 s12 s3 l0
    obtain⟨s12,s3⟩:=H0.out w1 k1
    go_wp2_with (first | ((with_reducible refine load_m s12 Tryz.underlying47 ?_ ?_ ?_ ?_ ?_);exact I12.out;rfl;rfl;rfl) | ((with_reducible refine load_m s3 Tryz.underlying51 ?_ ?_ ?_ ?_ ?_);exact I3.out;rfl;rfl;rfl))
    refine(CL.out _).mono ?_
    rintro e2 w2 ⟨rfl,q2⟩
    have k2:=k1.trans q2
    have l2:=livS_keep q2 l1
    clear q2 s12 s3 l1
    obtain⟨s12,s3⟩:=H0.out w2 k2
    go_wp2_with (first | ((with_reducible refine load_m s12 Tryz.underlying47 ?_ ?_ ?_ ?_ ?_);exact I12.out;rfl;rfl;rfl) | ((with_reducible refine load_m s3 Tryz.underlying51 ?_ ?_ ?_ ?_ ?_);exact I3.out;rfl;rfl;rfl))
    refine(CJ.out _ (HQ.out.keep (KA.trans k2))).mono ?_
    rintro e3 w3 ⟨rfl,q3⟩
    have k3:=k2.trans q3
    have l3:=livS_keep q3 l2
    clear q3 s12 s3 l2
    obtain⟨s12,s3⟩:=H0.out w3 k3
    go_wp2_with (first | ((with_reducible refine load_m s12 Tryz.underlying47 ?_ ?_ ?_ ?_ ?_);exact I12.out;rfl;rfl;rfl) | ((with_reducible refine load_m s3 Tryz.underlying51 ?_ ?_ ?_ ?_ ?_);exact I3.out;rfl;rfl;rfl))
    have KE:=KA.trans k3
    have hzE:=KA.size
    exact bodyPost_ret (v:=.tuple #[sv 0 0 (.slice none 0 0),.bool false]) (by simp [results,Tryz.results50,go_sem, *]) rfl (StPost.no (((KE.setCell (by simp <;> omega) _).setCell (by simp <;> omega) _).setCell (by simp <;> omega) _))
   ·rw [hsr] at CJ
    have CJL:=Lib.hid (fun (w:World) hB hS hq=>jLose_any At Ak nt nk ct ck l m a b c d e W H x r y lt lr ld T Z g off N cp us sd Aq nq cq ls w hB hS hN hq hok hst hsr)
    generalize lsU (fun z=>ofSide0 sd z && !supU l m lt lr ld W us H d ls z) us=UL at *
    clear hB hS hq hql hnq hok hst hsd0 hsr hN
    go_enter Tryz.func50,Tryz.ntmps50
    go_upto_region 1 with (fail)
    generalize (((w.alloc (.cells #[.slice At nt ct,.slice Ak nk ck,.int .i64 a,.int .i64 b,.int .i64 c,.int .i64 d,.int .i64 e,.int .i64 W,.int .i64 H,x,r,y] 47)).alloc (.cells #[.int .i64 T,.int .i64 Z,(.slice (some ⟨g,off,none⟩) N cp)] 51)).alloc (.cells #[.int .i64 0,.int .i64 0,.slice none 0 0] 51))=W0 at *
    have k0:=Kp.refl W0
    obtain⟨s12,s3⟩:=H0.out W0 k0
    go_wp2_with (first | ((with_reducible refine load_m s12 Tryz.underlying47 ?_ ?_ ?_ ?_ ?_);exact I12.out;rfl;rfl;rfl) | ((with_reducible refine load_m s3 Tryz.underlying51 ?_ ?_ ?_ ?_ ?_);exact I3.out;rfl;rfl;rfl))
    refine(CG.out _ (HB.out.keep (KA.trans k0)) (HS.out.keep (KA.trans k0))).mono ?_
    rintro e1 w1 ⟨rfl,q1⟩
    have k1:=k0.trans q1
    have l1:=livS_keep q1 l0
    clear q1 s12 s3 l0
    obtain⟨s12,s3⟩:=H0.out w1 k1
    go_wp2_with (first | ((with_reducible refine load_m s12 Tryz.underlying47 ?_ ?_ ?_ ?_ ?_);exact I12.out;rfl;rfl;rfl) | ((with_reducible refine load_m s3 Tryz.underlying51 ?_ ?_ ?_ ?_ ?_);exact I3.out;rfl;rfl;rfl))
    refine(CL.out _).mono ?_
    rintro e2 w2 ⟨rfl,q2⟩
    have k2:=k1.trans q2
    have l2:=livS_keep q2 l1
    clear q2 s12 s3 l1
    obtain⟨s12,s3⟩:=H0.out w2 k2
    go_wp2_with (first | ((with_reducible refine load_m s12 Tryz.underlying47 ?_ ?_ ?_ ?_ ?_);exact I12.out;rfl;rfl;rfl) | ((with_reducible refine load_m s3 Tryz.underlying51 ?_ ?_ ?_ ?_ ?_);exact I3.out;rfl;rfl;rfl))
    refine(CJ.out _ (HQ.out.keep (KA.trans k2))).mono ?_
    rintro e3 w3 ⟨rfl,q3⟩
    have k3:=k2.trans q3
    have l3:=livS_keep q3 l2
    clear q3 s12 s3 l2
    obtain⟨s12,s3⟩:=H0.out w3 k3
    go_wp2_with (first | ((with_reducible refine load_m s12 Tryz.underlying47 ?_ ?_ ?_ ?_ ?_);exact I12.out;rfl;rfl;rfl) | ((with_reducible refine load_m s3 Tryz.underlying51 ?_ ?_ ?_ ?_ ?_);exact I3.out;rfl;rfl;rfl))
    refine(CJL.out _ (HB.out.keep (KA.trans k3)) (HS.out.keep (KA.trans k3)) (HQ.out.keep (KA.trans k3))).mono ?_
    rintro e4 w4 ⟨v4,rfl,o4,q4⟩
    have K4:=KA.trans (k3.trans q4)
    have l4:=livS_keep q4 l3
    have hz3:=k3.size
    obtain⟨A9,c9,hv9⟩:=o4.slice
    subst hv9
    have O4:=Lib.hid o4
    clear o4 q4 s12 s3 l3
    go_wp2_with fail
    refine bodyPost_ret (v:=.tuple #[sv T Z (.slice A9 UL.length c9),.bool true]) (by simp [results,Tryz.results50,go_sem, *]) rfl ⟨_,rfl,?_,?_⟩
    ·have n0:=O4.out.not (g:=w.heap.size+1+1) (by omega)
     rw [if_pos rfl]
     exact(((O4.out.far n0 _).far n0 _).far n0 _).base (by omega)
    ·exact((K4.setCell (by simp <;> omega) _).setCell (by simp <;> omega) _).setCell (by simp <;> omega) _
end Go.Proofs.YtacgknllagdkoaaGreatDoor
