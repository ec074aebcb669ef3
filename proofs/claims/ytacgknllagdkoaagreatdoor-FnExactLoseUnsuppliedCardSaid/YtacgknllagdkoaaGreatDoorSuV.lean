/-
 Sources, and the side with its sources, as the program tests and makes them. Nothing that was there is changed. The named variables hold what the program's text lays.
-/
import Derived.Deep.Cut
import Derived.Deep.RegionHeld3
import Derived.Laws.ResultCell
import Derived.Test.YtacgknllagdkoaaGreatDoorSuW
import Derived.Test.YtacgknllagdkoaaGreatDoorSuS
import Derived.Test.YtacgknllagdkoaaGreatDoorQa
import Derived.Test.YtacgknllagdkoaaGreatDoorQp
import Derived.Test.YtacgknllagdkoaaGreatDoorQa
namespace Go.Proofs.YtacgknllagdkoaaGreatDoor
open Go.RowKit
set_option maxRecDepth 100000 in
theorem isIncreasing_H (lb:Array Value) (f:Int→Bool) (l:List Int) (v:Value) (W1 w:World) (HP:∀ x ∈ l,∀ w,Kp W1 w→Calls Tryz.prog 231 (#[.int .i64 x]++lb) w fun e w'=>e=.returned (.bool (f x))∧Kp w w') (hk:Kp W1 w) (h:RdI w v l) (hl:l.length≤1048576) :
  Calls Tryz.prog 230 #[v,.func (.func 231) #[] lb] w fun e w'=>e=.returned (.bool (incN f none l))∧Kp w w':=by
 obtain⟨A,cp,rfl,h⟩:=h
 have HA:=Lib.hid h
 have HPP:=Lib.hid HP
 obtain⟨R,hR⟩:∃ R,R=incN f none l:=⟨_,rfl⟩
 rw [← hR]
 have HR:=Lib.hid hR
 clear h HP hR
 generalize hn:l.length=n at *
 have HN:=Lib.hid hn
 clear hn
 go_enter Tryz.func230,Tryz.ntmps230
 go_wp2_with fail
 go_loopw [5,6,9] (fun _ _ i wr=>∃ k:Nat,k≤n∧i=.int .i64 k∧Hid (incN f (prvN l k) (l.drop k)=R)∧Kp w wr) (fun _ _ i _=>n - (intOf i).toNat)
 case atStart=>exact⟨0,by omega,rfl,Lib.hid (by rw [HR.out];rfl),Kp.refl _⟩
 case round =>
  obtain⟨k,hkn,rfl,hE,kr⟩:=hrel
  by_cases hlt:k<n
  ·obtain⟨g,off,rfl,hc⟩:=HA.out (by omega)
   obtain⟨x,hx⟩:∃ x,l[k]?=some x:=⟨l[k]'(by have:=HN.out;omega),List.getElem?_eq_getElem _⟩
   have a0:=kr.cell (hc k x hx)
   have HC:=Lib.hid (HPP.out x (List.mem_of_getElem? hx))
   have HX:=Lib.hid (drop_step hx)
   have HP1:Hid (prvN l (k+1)=some x):=Lib.hid hx
   have hlt':(k:Int)<n:=by omega
   cases hok:f x
   ·rw [hok] at HC
    have HE2:Hid (R=false):=Lib.hid (by rw [← hE.out,HX.out];simp [incN,hok])
    clear hc hx hok
    go_wp2_with fail
    refine(HC.out _ (hk.trans kr)).mono ?_
    rintro e1 w1 ⟨rfl,k1⟩
    go_wp2_with fail
    go_ret
    exact⟨ret_bool HE2.out.symm,kr.trans k1⟩
   ·rw [hok] at HC
    by_cases h0:k=0
    ·subst h0
     have a1:wr.cell? ⟨g,off,none⟩=some (.int .i64 x):=a0
     have HE2:Hid (incN f (prvN l 1) (l.drop 1)=R):=Lib.hid (by
      rw [← hE.out,HX.out,HP1.out]
      simp [incN,hok,prvN])
     clear hc hx hok
     go_wp2_with fail
     refine(HC.out _ (hk.trans kr)).mono ?_
     rintro e1 w1 ⟨rfl,k1⟩
     go_wp2_with fail
     go_roundw
     case rel=>exact⟨1,by omega,by go_num,HE2,kr.trans k1⟩
     case measure=>simp [intOf];omega
    ·obtain⟨q,hq⟩:∃ q,l[k - 1]?=some q:=⟨l[k - 1]'(by have:=HN.out;omega),List.getElem?_eq_getElem _⟩
     have HQ:Hid (prvN l k=some q):=Lib.hid (by
      obtain⟨j,rfl⟩:∃ j,k=j+1:=⟨k - 1,by omega⟩
      exact hq)
     have et:((k:Int) - 1).toNat=k - 1:=by omega
     have p0:=kr.cell (hc (k - 1) q hq)
     have p1:wr.cell? ⟨g,off+((k:Int) - 1).toNat,none⟩=some (.int .i64 q):=by rw [et];exact p0
     have i0:0≤(k:Int) - 1:=by omega
     have i1:(k:Int) - 1<n:=by omega
     have hk0:0<k:=by omega
     by_cases hp:q<x
     ·have hp':¬ x≤q:=by omega
      have HE2:Hid (incN f (prvN l (k+1)) (l.drop (k+1))=R):=Lib.hid (by
       rw [← hE.out,HX.out,HP1.out,HQ.out]
       simp [incN,hok,hp])
      clear hc hx hok hq et
      go_wp2_with fail
      refine(HC.out _ (hk.trans kr)).mono ?_
      rintro e1 w1 ⟨rfl,k1⟩
      have p2:=k1.cell p1
      have p3:=k1.cell p0
      go_wp2_with fail
      go_roundw
      case rel=>exact⟨k+1,by omega,by go_num,HE2,kr.trans k1⟩
      case measure=>simp [intOf];omega
     ·have hp':x≤q:=by omega
      have HE2:Hid (R=false):=Lib.hid (by rw [← hE.out,HX.out,HQ.out];simp [incN,hp])
      clear hc hx hok hq et
      go_wp2_with fail
      refine(HC.out _ (hk.trans kr)).mono ?_
      rintro e1 w1 ⟨rfl,k1⟩
      have p2:=k1.cell p1
      have p3:=k1.cell p0
      go_wp2_with fail
      go_ret
      exact⟨ret_bool HE2.out.symm,kr.trans k1⟩
  ·obtain rfl:k=n:=by omega
   go_wp2_with fail
   go_ret
   refine⟨ret_bool ?_,kr⟩
   rw [← hE.out,List.drop_of_length_le (by rw [HN.out];omega)]
   rfl
set_option maxRecDepth 100000 in
set_option maxHeartbeats 4000000 in
theorem ordClo_any (W H:Int) (x r y:Value) (B:Nat) (i:Int) (w:World) (a:1≤W) (b:W≤10) (c:1≤H) (e:H≤10) (h:ce5 w B (.int .i64 W) (.int .i64 H) (x) (r) (y)) :
  Calls Tryz.prog 231 #[.int .i64 i,.pointer (some ⟨B,0,none⟩)] w fun e' w'=>e'=.returned (.bool (onI W H i))∧Kp w w':=by
 have CI:=Lib.hid (isIndex_any W H x r y i w a b c e)
 obtain⟨c0,c1,c2,c3,c4⟩:=h
 generalize onI W H i=R at CI ⊢
 go_enter Tryz.func231,Tryz.ntmps231
 go_wp2_with fail
 refine CI.out.mono ?_
 rintro e1 w1 ⟨rfl,k1⟩
 go_wp2_with fail
 go_ret
 exact⟨rfl,k1⟩
set_option maxRecDepth 100000 in
set_option maxHeartbeats 4000000 in
theorem inOrder_any (W H:Int) (x r y:Value) (v:Value) (l:List Int) (w:World) (a:1≤W) (b:W≤10) (c:1≤H) (e:H≤10) (h:RdI w v l) (hl:l.length≤1048576) :
  Calls Tryz.prog 202 #[mp W H x r y,v] w fun e' w'=>e'=.returned (.bool (incN (onI W H) none l))∧Kp w w':=by
 have KA:Kp w (w.alloc (.cells #[.int .i64 W,.int .i64 H,x,r,y] 45)):=(Kp.refl w).alloc _
 have s0:=new5 w (.int .i64 W) (.int .i64 H) x r y 45
 have C1:=Lib.hid (isIncreasing_H #[.pointer (some ⟨w.heap.size,0,none⟩)] (onI W H) l v (w.alloc (.cells #[.int .i64 W,.int .i64 H,x,r,y] 45)) (w.alloc (.cells #[.int .i64 W,.int .i64 H,x,r,y] 45)) (fun z _ w' k'=>ordClo_any W H x r y w.heap.size z w' a b c e ⟨k'.cell s0.1,k'.cell s0.2.1,k'.cell s0.2.2.1,k'.cell s0.2.2.2.1,k'.cell s0.2.2.2.2.1⟩) (Kp.refl _) (h.keep KA) hl)
 generalize incN (onI W H) none l=R at C1 ⊢
 clear h hl s0
 go_enter Tryz.func202,Tryz.ntmps202
 go_wp2_with fail
 refine C1.out.mono ?_
 rintro e1 w1 ⟨rfl,k1⟩
 go_wp2_with fail
 go_ret
 exact⟨rfl,KA.trans k1⟩
set_option maxRecDepth 100000 in
set_option maxHeartbeats 4000000 in
theorem areSources_any (W H:Int) (x r y:Value) (A:Option Addr) (n cp:Nat) (l:List Int) (w:World) (a:1≤W) (b:W≤10) (c:1≤H) (e:H≤10) (h:RdI w (.slice A n cp) l) (hl:l.length≤1048576) :
  Calls Tryz.prog 165 #[mp W H x r y,.slice A n cp] w fun e' w'=>e'=.returned (.bool (srcOk W H l))∧Kp w w':=by
 have KA:Kp w (w.alloc (.cells #[.int .i64 W,.int .i64 H,x,r,y] 45)):=(Kp.refl w).alloc _
 have s0:=new5 w (.int .i64 W) (.int .i64 H) x r y 45
 have hn:l.length=n:=by
  obtain⟨A',c',e1,_⟩:=h
  simp only [Value.slice.injEq] at e1
  exact e1.2.1.symm
 have C1:=Lib.hid (inOrder_any W H x r y (.slice A n cp) l (w.alloc (.cells #[.int .i64 W,.int .i64 H,x,r,y] 45)) a b c e (h.keep KA) hl)
 unfold srcOk
 rw [hn]
 generalize incN (onI W H) none l=R at C1 ⊢
 clear h hl hn
 by_cases h6:n≤6
 ·have h6':(n:Int)≤6:=by omega
  have h6b:decide (n≤6)=true:=by simpa using h6
  rw [h6b,Bool.true_and]
  clear h6b
  go_enter Tryz.func165,Tryz.ntmps165
  go_wp2_with fail
  refine C1.out.mono ?_
  rintro e1 w1 ⟨rfl,k1⟩
  go_wp2_with fail
  go_ret
  exact⟨ret_bool (by simp),KA.trans k1⟩
 ·have h6':¬ (n:Int)≤6:=by omega
  have h6b:decide (n≤6)=false:=by simpa using h6
  rw [h6b,Bool.false_and]
  clear h6b
  go_enter Tryz.func165,Tryz.ntmps165
  go_wp2_with fail
  go_ret
  exact⟨rfl,KA⟩
theorem there_kp {w w':World} {b o n:Nat} (h:w.there b o n) (k:Kp w w'):w'.there b o n:=fun j hj=>by
 obtain⟨h1,h2⟩:=h j hj
 obtain⟨v,hv⟩:=Option.isSome_iff_exists.1 h1
 obtain⟨h3,h4⟩:=k.liv ⟨hv,h2⟩
 exact⟨by rw [h3];rfl,h4⟩
set_option maxRecDepth 100000 in
set_option maxHeartbeats 4000000 in
theorem supplierOf_s (At Ak:Option Addr) (nt nk ct ck:Nat) (l:List Ter) (m:List Knd) (a b c d e W H:Int) (Ax Ar Ay:Option Addr) (nx cx nr cr ny cy:Nat) (lt lr ld:List Int) (T Z:Int) (Au:Option Addr) (nu cu:Nat) (us:List Uni) (sd:Int) (Aq:Option Addr) (nq cq:Nat) (ls:List Int) (w:World) (hs:Spans w) (ht:Tab w) (hu:SpU w) (hB:BrdAt w At Ak nt nk l m (.slice Ax nx cx) (.slice Ar nr cr) (.slice Ay ny cy) lt lr ld) (hS:StaAt w (.slice Au nu cu) us) (hq:RdI w (.slice Aq nq cq) ls) (hql:ls.length≤1048576) :
  Calls Tryz.prog 106 #[bv (.slice At nt ct) (.slice Ak nk ck) a b c d e W H (.slice Ax nx cx) (.slice Ar nr cr) (.slice Ay ny cy),sv T Z (.slice Au nu cu),.int .i64 sd,.slice Aq nq cq] w fun e' w'=>e'=.returned (.tuple #[(if (((brdOk ⟨l,m,a,b,c,d,e⟩ W H lt lr ld && staOk ⟨l,m,a,b,c,d,e⟩ W H lt T Z us) && spB 0 1 sd) && srcOk W H ls)=true then .agg #[.slice At nt ct,.slice Ak nk ck,.int .i64 a,.int .i64 b,.int .i64 c,.int .i64 d,.int .i64 e,.int .i64 W,.int .i64 H,.slice Ax nx cx,.slice Ar nr cr,.slice Ay ny cy,.int .i64 T,.int .i64 Z,.slice Au nu cu,.int .i64 sd,.slice Aq nq cq] else .agg #[.slice none 0 0,.slice none 0 0,.int .i64 0,.int .i64 0,.int .i64 0,.int .i64 0,.int .i64 0,.int .i64 0,.int .i64 0,.slice none 0 0,.slice none 0 0,.slice none 0 0,.int .i64 0,.int .i64 0,.slice none 0 0,.int .i64 0,.slice none 0 0]),.bool (((brdOk ⟨l,m,a,b,c,d,e⟩ W H lt lr ld && staOk ⟨l,m,a,b,c,d,e⟩ W H lt T Z us) && spB 0 1 sd) && srcOk W H ls)])∧Kp w w':=by
 have KA:Kp w (((w.alloc (.cells #[.slice At nt ct,.slice Ak nk ck,.int .i64 a,.int .i64 b,.int .i64 c,.int .i64 d,.int .i64 e,.int .i64 W,.int .i64 H,.slice Ax nx cx,.slice Ar nr cr,.slice Ay ny cy] 47)).alloc (.cells #[.int .i64 T,.int .i64 Z,.slice Au nu cu] 51)).alloc (.cells #[.slice none 0 0,.slice none 0 0,.int .i64 0,.int .i64 0,.int .i64 0,.int .i64 0,.int .i64 0,.int .i64 0,.int .i64 0,.slice none 0 0,.slice none 0 0,.slice none 0 0,.int .i64 0,.int .i64 0,.slice none 0 0,.int .i64 0,.slice none 0 0] 147)):=(((Kp.refl w).alloc _).alloc _).alloc _
 have H0:Hid (∀ w',Kp (((w.alloc (.cells #[.slice At nt ct,.slice Ak nk ck,.int .i64 a,.int .i64 b,.int .i64 c,.int .i64 d,.int .i64 e,.int .i64 W,.int .i64 H,.slice Ax nx cx,.slice Ar nr cr,.slice Ay ny cy] 47)).alloc (.cells #[.int .i64 T,.int .i64 Z,.slice Au nu cu] 51)).alloc (.cells #[.slice none 0 0,.slice none 0 0,.int .i64 0,.int .i64 0,.int .i64 0,.int .i64 0,.int .i64 0,.int .i64 0,.int .i64 0,.slice none 0 0,.slice none 0 0,.slice none 0 0,.int .i64 0,.int .i64 0,.slice none 0 0,.int .i64 0,.slice none 0 0] 147)) w'→World.rangeAt w' w.heap.size 0 [.slice At nt ct,.slice Ak nk ck,.int .i64 a,.int .i64 b,.int .i64 c,.int .i64 d,.int .i64 e,.int .i64 W,.int .i64 H,.slice Ax nx cx,.slice Ar nr cr,.slice Ay ny cy]∧World.rangeAt w' w.heap.size 7 [.int .i64 W,.int .i64 H,.slice Ax nx cx,.slice Ar nr cr,.slice Ay ny cy]∧(w'.rangeAt (w.heap.size+1) 0 [.int .i64 T,.int .i64 Z,.slice Au nu cu])∧World.there w' (w.heap.size+1+1) 0 17∧(ce2 w' 0 (.int .i64 0) (.int .i64 1))):=Lib.hid fun w' k=>by
  have r0:World.rangeAt (((w.alloc (.cells #[.slice At nt ct,.slice Ak nk ck,.int .i64 a,.int .i64 b,.int .i64 c,.int .i64 d,.int .i64 e,.int .i64 W,.int .i64 H,.slice Ax nx cx,.slice Ar nr cr,.slice Ay ny cy] 47)).alloc (.cells #[.int .i64 T,.int .i64 Z,.slice Au nu cu] 51)).alloc (.cells #[.slice none 0 0,.slice none 0 0,.int .i64 0,.int .i64 0,.int .i64 0,.int .i64 0,.int .i64 0,.int .i64 0,.int .i64 0,.slice none 0 0,.slice none 0 0,.slice none 0 0,.int .i64 0,.int .i64 0,.slice none 0 0,.int .i64 0,.slice none 0 0] 147)) w.heap.size 0 [.slice At nt ct,.slice Ak nk ck,.int .i64 a,.int .i64 b,.int .i64 c,.int .i64 d,.int .i64 e,.int .i64 W,.int .i64 H,.slice Ax nx cx,.slice Ar nr cr,.slice Ay ny cy]:=range_keep (range_fresh w [.slice At nt ct,.slice Ak nk ck,.int .i64 a,.int .i64 b,.int .i64 c,.int .i64 d,.int .i64 e,.int .i64 W,.int .i64 H,.slice Ax nx cx,.slice Ar nr cr,.slice Ay ny cy] 47) (((Kp.refl _).alloc _).alloc _)
  have r3:World.rangeAt (((w.alloc (.cells #[.slice At nt ct,.slice Ak nk ck,.int .i64 a,.int .i64 b,.int .i64 c,.int .i64 d,.int .i64 e,.int .i64 W,.int .i64 H,.slice Ax nx cx,.slice Ar nr cr,.slice Ay ny cy] 47)).alloc (.cells #[.int .i64 T,.int .i64 Z,.slice Au nu cu] 51)).alloc (.cells #[.slice none 0 0,.slice none 0 0,.int .i64 0,.int .i64 0,.int .i64 0,.int .i64 0,.int .i64 0,.int .i64 0,.int .i64 0,.slice none 0 0,.slice none 0 0,.slice none 0 0,.int .i64 0,.int .i64 0,.slice none 0 0,.int .i64 0,.slice none 0 0] 147)) (w.heap.size+1) 0 [.int .i64 T,.int .i64 Z,.slice Au nu cu]:=by
   have h:=range_fresh (w.alloc (.cells #[.slice At nt ct,.slice Ak nk ck,.int .i64 a,.int .i64 b,.int .i64 c,.int .i64 d,.int .i64 e,.int .i64 W,.int .i64 H,.slice Ax nx cx,.slice Ar nr cr,.slice Ay ny cy] 47)) [.int .i64 T,.int .i64 Z,.slice Au nu cu] 51
   rw [show (w.alloc (.cells #[.slice At nt ct,.slice Ak nk ck,.int .i64 a,.int .i64 b,.int .i64 c,.int .i64 d,.int .i64 e,.int .i64 W,.int .i64 H,.slice Ax nx cx,.slice Ar nr cr,.slice Ay ny cy] 47)).heap.size=w.heap.size+1 by simp] at h
   exact range_keep h ((Kp.refl _).alloc _)
  have th:World.there (((w.alloc (.cells #[.slice At nt ct,.slice Ak nk ck,.int .i64 a,.int .i64 b,.int .i64 c,.int .i64 d,.int .i64 e,.int .i64 W,.int .i64 H,.slice Ax nx cx,.slice Ar nr cr,.slice Ay ny cy] 47)).alloc (.cells #[.int .i64 T,.int .i64 Z,.slice Au nu cu] 51)).alloc (.cells #[.slice none 0 0,.slice none 0 0,.int .i64 0,.int .i64 0,.int .i64 0,.int .i64 0,.int .i64 0,.int .i64 0,.int .i64 0,.slice none 0 0,.slice none 0 0,.slice none 0 0,.int .i64 0,.int .i64 0,.slice none 0 0,.int .i64 0,.slice none 0 0] 147)) (w.heap.size+1+1) 0 17:=by
   have h:=there_fresh ((w.alloc (.cells #[.slice At nt ct,.slice Ak nk ck,.int .i64 a,.int .i64 b,.int .i64 c,.int .i64 d,.int .i64 e,.int .i64 W,.int .i64 H,.slice Ax nx cx,.slice Ar nr cr,.slice Ay ny cy] 47)).alloc (.cells #[.int .i64 T,.int .i64 Z,.slice Au nu cu] 51)) [.slice none 0 0,.slice none 0 0,.int .i64 0,.int .i64 0,.int .i64 0,.int .i64 0,.int .i64 0,.int .i64 0,.int .i64 0,.slice none 0 0,.slice none 0 0,.slice none 0 0,.int .i64 0,.int .i64 0,.slice none 0 0,.int .i64 0,.slice none 0 0] 147
   rw [show ((w.alloc (.cells #[.slice At nt ct,.slice Ak nk ck,.int .i64 a,.int .i64 b,.int .i64 c,.int .i64 d,.int .i64 e,.int .i64 W,.int .i64 H,.slice Ax nx cx,.slice Ar nr cr,.slice Ay ny cy] 47)).alloc (.cells #[.int .i64 T,.int .i64 Z,.slice Au nu cu] 51)).heap.size=w.heap.size+1+1 by simp] at h
   exact h
  exact⟨range_keep r0 k,range_keep (range_part r0 7 5) k,range_keep r3 k,there_kp th k,(KA.trans k).cell hu.side.1,(KA.trans k).cell hu.side.2⟩
 have I12:Hid ((Tryz.prog.info? 47).map (·.size)=some 12):=Lib.hid (by kernel_rfl)
 have I5:Hid ((Tryz.prog.info? 45).map (·.size)=some 5):=Lib.hid (by kernel_rfl)
 have I3:Hid ((Tryz.prog.info? 51).map (·.size)=some 3):=Lib.hid (by kernel_rfl)
 have I17:Hid ((Tryz.prog.info? 147).map (·.size)=some 17):=Lib.hid (by kernel_rfl)
 have HSP:=Lib.hid hs
 have HT:=Lib.hid ht
 have HU:=Lib.hid hu
 have HB:=Lib.hid hB
 have HS:=Lib.hid hS
 have HQ:=Lib.hid hq
 have CG:=Lib.hid (fun (w:World) hs ht hu hB hS=>isStateOn_any At Ak nt nk ct ck l m a b c d e W H (.slice Ax nx cx) (.slice Ar nr cr) (.slice Ay ny cy) lt lr ld T Z (.slice Au nu cu) us w hs ht hu hB hS)
 have CH:Hid (∀ w,Calls Tryz.prog 69 #[.agg #[.int .i64 0,.int .i64 1],.int .i64 sd] w fun e' w'=>e'=.returned (.bool (spB 0 1 sd))∧Kp w w'):=Lib.hid fun w=>has_any 0 1 sd w
 clear hs ht hu hB hS hq
 cases hg0:brdOk ⟨l,m,a,b,c,d,e⟩ W H lt lr ld && staOk ⟨l,m,a,b,c,d,e⟩ W H lt T Z us
 ·rw [hg0] at CG
  clear hg0 CH hql
  rw [Bool.false_and,Bool.false_and,if_neg Bool.false_ne_true]
  go_enter Tryz.func106,Tryz.ntmps106
  go_upto_region 1 with (fail)
  generalize (((w.alloc (.cells #[.slice At nt ct,.slice Ak nk ck,.int .i64 a,.int .i64 b,.int .i64 c,.int .i64 d,.int .i64 e,.int .i64 W,.int .i64 H,.slice Ax nx cx,.slice Ar nr cr,.slice Ay ny cy] 47)).alloc (.cells #[.int .i64 T,.int .i64 Z,.slice Au nu cu] 51)).alloc (.cells #[.slice none 0 0,.slice none 0 0,.int .i64 0,.int .i64 0,.int .i64 0,.int .i64 0,.int .i64 0,.int .i64 0,.int .i64 0,.slice none 0 0,.slice none 0 0,.slice none 0 0,.int .i64 0,.int .i64 0,.slice none 0 0,.int .i64 0,.slice none 0 0] 147))=W0 at *
  have k0:=Kp.refl W0
  obtain⟨s12,s5,s3,t17,g0,g1⟩:=H0.out _ k0
  go_wp2_with (first | ((with_reducible refine load_m s12 Tryz.underlying47 ?_ ?_ ?_ ?_ ?_);exact I12.out;rfl;rfl;rfl) | ((with_reducible refine load_m s5 Tryz.underlying45 ?_ ?_ ?_ ?_ ?_);exact I5.out;rfl;rfl;rfl) | ((with_reducible refine load_m s3 Tryz.underlying51 ?_ ?_ ?_ ?_ ?_);exact I3.out;rfl;rfl;rfl))
  refine(CG.out _ (HSP.out.keep (KA.trans k0)) (HT.out.keep (KA.trans k0)) (HU.out.keep (KA.trans k0)) (HB.out.keep (KA.trans k0)) (HS.out.keep (KA.trans k0))).mono ?_
  rintro e1 w1 ⟨rfl,q1⟩
  have k1:=k0.trans q1
  clear q1 s12 s5 s3 t17 g0 g1
  obtain⟨s12,s5,s3,t17,g0,g1⟩:=H0.out _ k1
  clear t17
  have t17:w1.there (w.heap.size+1+1) 0 (#[.slice none 0 0,.slice none 0 0,.int .i64 0,.int .i64 0,.int .i64 0,.int .i64 0,.int .i64 0,.int .i64 0,.int .i64 0,.slice none 0 0,.slice none 0 0,.slice none 0 0,.int .i64 0,.int .i64 0,.slice none 0 0,.int .i64 0,.slice none 0 0]:Array Value).size:=(H0.out _ k1).2.2.2.1
  obtain⟨W9,hW9⟩:∃ W9,W9=w1.setCells (w.heap.size+1+1) 0 (#[.slice none 0 0,.slice none 0 0,.int .i64 0,.int .i64 0,.int .i64 0,.int .i64 0,.int .i64 0,.int .i64 0,.int .i64 0,.slice none 0 0,.slice none 0 0,.slice none 0 0,.int .i64 0,.int .i64 0,.slice none 0 0,.int .i64 0,.slice none 0 0]:Array Value).toList:=⟨_,rfl⟩
  have r9:World.rangeAt W9 (w.heap.size+1+1) 0 [.slice none 0 0,.slice none 0 0,.int .i64 0,.int .i64 0,.int .i64 0,.int .i64 0,.int .i64 0,.int .i64 0,.int .i64 0,.slice none 0 0,.slice none 0 0,.slice none 0 0,.int .i64 0,.int .i64 0,.slice none 0 0,.int .i64 0,.slice none 0 0]:=by
   rw [hW9]
   exact World.rangeAt_setCells_same _ _ _ _ t17
  have K9:Kp w W9:=by
   rw [hW9]
   exact kp_cells (by omega) _ _ _ (KA.trans k1)
  have HW9:=Lib.hid hW9
  clear hW9
  go_wp2_with (first | ((with_reducible refine store_m t17 ?_ ?_ ?_ ?_ ?_ ?_);exact I17.out;(simp [Value.oneCell']);rfl;rfl;rfl;rw [← HW9.out]) | ((with_reducible refine load_m s12 Tryz.underlying47 ?_ ?_ ?_ ?_ ?_);exact I12.out;rfl;rfl;rfl) | ((with_reducible refine load_m s5 Tryz.underlying45 ?_ ?_ ?_ ?_ ?_);exact I5.out;rfl;rfl;rfl) | ((with_reducible refine load_m s3 Tryz.underlying51 ?_ ?_ ?_ ?_ ?_);exact I3.out;rfl;rfl;rfl))
  have hl:(loadVar 147 ⟨w.heap.size+1+1,0,none⟩).run Tryz.prog W9=.ok (.agg #[.slice none 0 0,.slice none 0 0,.int .i64 0,.int .i64 0,.int .i64 0,.int .i64 0,.int .i64 0,.int .i64 0,.int .i64 0,.slice none 0 0,.slice none 0 0,.slice none 0 0,.int .i64 0,.int .i64 0,.slice none 0 0,.int .i64 0,.slice none 0 0]) W9:=run_loadVar_mid W9 (w.heap.size+1+1) 0 147 [.slice none 0 0,.slice none 0 0,.int .i64 0,.int .i64 0,.int .i64 0,.int .i64 0,.int .i64 0,.int .i64 0,.int .i64 0,.slice none 0 0,.slice none 0 0,.slice none 0 0,.int .i64 0,.int .i64 0,.slice none 0 0,.int .i64 0,.slice none 0 0] _ r9 Tryz.underlying147 rfl (by kernel_rfl)
  refine bodyPost_ret (v:=.tuple #[.agg #[.slice none 0 0,.slice none 0 0,.int .i64 0,.int .i64 0,.int .i64 0,.int .i64 0,.int .i64 0,.int .i64 0,.int .i64 0,.slice none 0 0,.slice none 0 0,.slice none 0 0,.int .i64 0,.int .i64 0,.slice none 0 0,.int .i64 0,.slice none 0 0],.bool false]) ((results_cell_tmp Tryz.results106 _ _ _).trans (by simp [asAddr,hl])) rfl ⟨rfl,K9⟩
 ·rw [hg0] at CG
  have hok:brdOk ⟨l,m,a,b,c,d,e⟩ W H lt lr ld=true:=by
   simp only [Bool.and_eq_true] at hg0
   exact hg0.1
  obtain⟨p1,p2,p3,p4⟩:=mapOk_side (brdOk_map hok)
  have CR:=Lib.hid (fun (w:World) hq=>areSources_any W H (.slice Ax nx cx) (.slice Ar nr cr) (.slice Ay ny cy) Aq nq cq ls w p1 p2 p3 p4 hq hql)
  clear hg0 hok p1 p2 p3 p4 hql
  rw [Bool.true_and]
  cases hg1:spB 0 1 sd
  ·rw [hg1] at CH
   clear hg1 CR
   rw [Bool.false_and,if_neg Bool.false_ne_true]
   go_enter Tryz.func106,Tryz.ntmps106
   go_upto_region 1 with (fail)
   generalize (((w.alloc (.cells #[.slice At nt ct,.slice Ak nk ck,.int .i64 a,.int .i64 b,.int .i64 c,.int .i64 d,.int .i64 e,.int .i64 W,.int .i64 H,.slice Ax nx cx,.slice Ar nr cr,.slice Ay ny cy] 47)).alloc (.cells #[.int .i64 T,.int .i64 Z,.slice Au nu cu] 51)).alloc (.cells #[.slice none 0 0,.slice none 0 0,.int .i64 0,.int .i64 0,.int .i64 0,.int .i64 0,.int .i64 0,.int .i64 0,.int .i64 0,.slice none 0 0,.slice none 0 0,.slice none 0 0,.int .i64 0,.int .i64 0,.slice none 0 0,.int .i64 0,.slice none 0 0] 147))=W0 at *
   have k0:=Kp.refl W0
   obtain⟨s12,s5,s3,t17,g0,g1⟩:=H0.out _ k0
   go_wp2_with (first | ((with_reducible refine load_m s12 Tryz.underlying47 ?_ ?_ ?_ ?_ ?_);exact I12.out;rfl;rfl;rfl) | ((with_reducible refine load_m s5 Tryz.underlying45 ?_ ?_ ?_ ?_ ?_);exact I5.out;rfl;rfl;rfl) | ((with_reducible refine load_m s3 Tryz.underlying51 ?_ ?_ ?_ ?_ ?_);exact I3.out;rfl;rfl;rfl))
   refine(CG.out _ (HSP.out.keep (KA.trans k0)) (HT.out.keep (KA.trans k0)) (HU.out.keep (KA.trans k0)) (HB.out.keep (KA.trans k0)) (HS.out.keep (KA.trans k0))).mono ?_
   rintro e1 w1 ⟨rfl,q1⟩
   have k1:=k0.trans q1
   clear q1 s12 s5 s3 t17 g0 g1
   obtain⟨s12,s5,s3,t17,g0,g1⟩:=H0.out _ k1
   clear k0
   go_wp2_with (first | ((with_reducible refine load_m s12 Tryz.underlying47 ?_ ?_ ?_ ?_ ?_);exact I12.out;rfl;rfl;rfl) | ((with_reducible refine load_m s5 Tryz.underlying45 ?_ ?_ ?_ ?_ ?_);exact I5.out;rfl;rfl;rfl) | ((with_reducible refine load_m s3 Tryz.underlying51 ?_ ?_ ?_ ?_ ?_);exact I3.out;rfl;rfl;rfl))
   refine(CH.out _).mono ?_
   rintro e2 w2 ⟨rfl,q2⟩
   have k2:=k1.trans q2
   clear q2 s12 s5 s3 t17 g0 g1
   obtain⟨s12,s5,s3,t17,g0,g1⟩:=H0.out _ k2
   clear t17
   have t17:w2.there (w.heap.size+1+1) 0 (#[.slice none 0 0,.slice none 0 0,.int .i64 0,.int .i64 0,.int .i64 0,.int .i64 0,.int .i64 0,.int .i64 0,.int .i64 0,.slice none 0 0,.slice none 0 0,.slice none 0 0,.int .i64 0,.int .i64 0,.slice none 0 0,.int .i64 0,.slice none 0 0]:Array Value).size:=(H0.out _ k2).2.2.2.1
   obtain⟨W9,hW9⟩:∃ W9,W9=w2.setCells (w.heap.size+1+1) 0 (#[.slice none 0 0,.slice none 0 0,.int .i64 0,.int .i64 0,.int .i64 0,.int .i64 0,.int .i64 0,.int .i64 0,.int .i64 0,.slice none 0 0,.slice none 0 0,.slice none 0 0,.int .i64 0,.int .i64 0,.slice none 0 0,.int .i64 0,.slice none 0 0]:Array Value).toList:=⟨_,rfl⟩
   have r9:World.rangeAt W9 (w.heap.size+1+1) 0 [.slice none 0 0,.slice none 0 0,.int .i64 0,.int .i64 0,.int .i64 0,.int .i64 0,.int .i64 0,.int .i64 0,.int .i64 0,.slice none 0 0,.slice none 0 0,.slice none 0 0,.int .i64 0,.int .i64 0,.slice none 0 0,.int .i64 0,.slice none 0 0]:=by
    rw [hW9]
    exact World.rangeAt_setCells_same _ _ _ _ t17
   have K9:Kp w W9:=by
    rw [hW9]
    exact kp_cells (by omega) _ _ _ (KA.trans k2)
   have HW9:=Lib.hid hW9
   clear hW9
   go_wp2_with (first | ((with_reducible refine store_m t17 ?_ ?_ ?_ ?_ ?_ ?_);exact I17.out;(simp [Value.oneCell']);rfl;rfl;rfl;rw [← HW9.out]) | ((with_reducible refine load_m s12 Tryz.underlying47 ?_ ?_ ?_ ?_ ?_);exact I12.out;rfl;rfl;rfl) | ((with_reducible refine load_m s5 Tryz.underlying45 ?_ ?_ ?_ ?_ ?_);exact I5.out;rfl;rfl;rfl) | ((with_reducible refine load_m s3 Tryz.underlying51 ?_ ?_ ?_ ?_ ?_);exact I3.out;rfl;rfl;rfl))
   have hl:(loadVar 147 ⟨w.heap.size+1+1,0,none⟩).run Tryz.prog W9=.ok (.agg #[.slice none 0 0,.slice none 0 0,.int .i64 0,.int .i64 0,.int .i64 0,.int .i64 0,.int .i64 0,.int .i64 0,.int .i64 0,.slice none 0 0,.slice none 0 0,.slice none 0 0,.int .i64 0,.int .i64 0,.slice none 0 0,.int .i64 0,.slice none 0 0]) W9:=run_loadVar_mid W9 (w.heap.size+1+1) 0 147 [.slice none 0 0,.slice none 0 0,.int .i64 0,.int .i64 0,.int .i64 0,.int .i64 0,.int .i64 0,.int .i64 0,.int .i64 0,.slice none 0 0,.slice none 0 0,.slice none 0 0,.int .i64 0,.int .i64 0,.slice none 0 0,.int .i64 0,.slice none 0 0] _ r9 Tryz.underlying147 rfl (by kernel_rfl)
   refine bodyPost_ret (v:=.tuple #[.agg #[.slice none 0 0,.slice none 0 0,.int .i64 0,.int .i64 0,.int .i64 0,.int .i64 0,.int .i64 0,.int .i64 0,.int .i64 0,.slice none 0 0,.slice none 0 0,.slice none 0 0,.int .i64 0,.int .i64 0,.slice none 0 0,.int .i64 0,.slice none 0 0],.bool false]) ((results_cell_tmp Tryz.results106 _ _ _).trans (by simp [asAddr,hl])) rfl ⟨rfl,K9⟩
  ·rw [hg1] at CH
   clear hg1
   rw [Bool.true_and]
   cases hg2:srcOk W H ls
   ·rw [hg2] at CR
    clear hg2
    rw [if_neg Bool.false_ne_true]
    go_enter Tryz.func106,Tryz.ntmps106
    go_upto_region 1 with (fail)
    generalize (((w.alloc (.cells #[.slice At nt ct,.slice Ak nk ck,.int .i64 a,.int .i64 b,.int .i64 c,.int .i64 d,.int .i64 e,.int .i64 W,.int .i64 H,.slice Ax nx cx,.slice Ar nr cr,.slice Ay ny cy] 47)).alloc (.cells #[.int .i64 T,.int .i64 Z,.slice Au nu cu] 51)).alloc (.cells #[.slice none 0 0,.slice none 0 0,.int .i64 0,.int .i64 0,.int .i64 0,.int .i64 0,.int .i64 0,.int .i64 0,.int .i64 0,.slice none 0 0,.slice none 0 0,.slice none 0 0,.int .i64 0,.int .i64 0,.slice none 0 0,.int .i64 0,.slice none 0 0] 147))=W0 at *
    have k0:=Kp.refl W0
    obtain⟨s12,s5,s3,t17,g0,g1⟩:=H0.out _ k0
    go_wp2_with (first | ((with_reducible refine load_m s12 Tryz.underlying47 ?_ ?_ ?_ ?_ ?_);exact I12.out;rfl;rfl;rfl) | ((with_reducible refine load_m s5 Tryz.underlying45 ?_ ?_ ?_ ?_ ?_);exact I5.out;rfl;rfl;rfl) | ((with_reducible refine load_m s3 Tryz.underlying51 ?_ ?_ ?_ ?_ ?_);exact I3.out;rfl;rfl;rfl))
    refine(CG.out _ (HSP.out.keep (KA.trans k0)) (HT.out.keep (KA.trans k0)) (HU.out.keep (KA.trans k0)) (HB.out.keep (KA.trans k0)) (HS.out.keep (KA.trans k0))).mono ?_
    rintro e1 w1 ⟨rfl,q1⟩
    have k1:=k0.trans q1
    clear q1 s12 s5 s3 t17 g0 g1
    obtain⟨s12,s5,s3,t17,g0,g1⟩:=H0.out _ k1
    clear k0
    go_wp2_with (first | ((with_reducible refine load_m s12 Tryz.underlying47 ?_ ?_ ?_ ?_ ?_);exact I12.out;rfl;rfl;rfl) | ((with_reducible refine load_m s5 Tryz.underlying45 ?_ ?_ ?_ ?_ ?_);exact I5.out;rfl;rfl;rfl) | ((with_reducible refine load_m s3 Tryz.underlying51 ?_ ?_ ?_ ?_ ?_);exact I3.out;rfl;rfl;rfl))
    refine(CH.out _).mono ?_
    rintro e2 w2 ⟨rfl,q2⟩
    have k2:=k1.trans q2
    clear q2 s12 s5 s3 t17 g0 g1
    obtain⟨s12,s5,s3,t17,g0,g1⟩:=H0.out _ k2
    clear k1
    go_wp2_with (first | ((with_reducible refine load_m s12 Tryz.underlying47 ?_ ?_ ?_ ?_ ?_);exact I12.out;rfl;rfl;rfl) | ((with_reducible refine load_m s5 Tryz.underlying45 ?_ ?_ ?_ ?_ ?_);exact I5.out;rfl;rfl;rfl) | ((with_reducible refine load_m s3 Tryz.underlying51 ?_ ?_ ?_ ?_ ?_);exact I3.out;rfl;rfl;rfl))
    refine(CR.out _ (HQ.out.keep (KA.trans k2))).mono ?_
    rintro e3 w3 ⟨rfl,q3⟩
    have k3:=k2.trans q3
    clear q3 s12 s5 s3 t17 g0 g1
    obtain⟨s12,s5,s3,t17,g0,g1⟩:=H0.out _ k3
    clear t17
    have t17:w3.there (w.heap.size+1+1) 0 (#[.slice none 0 0,.slice none 0 0,.int .i64 0,.int .i64 0,.int .i64 0,.int .i64 0,.int .i64 0,.int .i64 0,.int .i64 0,.slice none 0 0,.slice none 0 0,.slice none 0 0,.int .i64 0,.int .i64 0,.slice none 0 0,.int .i64 0,.slice none 0 0]:Array Value).size:=(H0.out _ k3).2.2.2.1
    obtain⟨W9,hW9⟩:∃ W9,W9=w3.setCells (w.heap.size+1+1) 0 (#[.slice none 0 0,.slice none 0 0,.int .i64 0,.int .i64 0,.int .i64 0,.int .i64 0,.int .i64 0,.int .i64 0,.int .i64 0,.slice none 0 0,.slice none 0 0,.slice none 0 0,.int .i64 0,.int .i64 0,.slice none 0 0,.int .i64 0,.slice none 0 0]:Array Value).toList:=⟨_,rfl⟩
    have r9:World.rangeAt W9 (w.heap.size+1+1) 0 [.slice none 0 0,.slice none 0 0,.int .i64 0,.int .i64 0,.int .i64 0,.int .i64 0,.int .i64 0,.int .i64 0,.int .i64 0,.slice none 0 0,.slice none 0 0,.slice none 0 0,.int .i64 0,.int .i64 0,.slice none 0 0,.int .i64 0,.slice none 0 0]:=by
     rw [hW9]
     exact World.rangeAt_setCells_same _ _ _ _ t17
    have K9:Kp w W9:=by
     rw [hW9]
     exact kp_cells (by omega) _ _ _ (KA.trans k3)
    have HW9:=Lib.hid hW9
    clear hW9
    go_wp2_with (first | ((with_reducible refine store_m t17 ?_ ?_ ?_ ?_ ?_ ?_);exact I17.out;(simp [Value.oneCell']);rfl;rfl;rfl;rw [← HW9.out]) | ((with_reducible refine load_m s12 Tryz.underlying47 ?_ ?_ ?_ ?_ ?_);exact I12.out;rfl;rfl;rfl) | ((with_reducible refine load_m s5 Tryz.underlying45 ?_ ?_ ?_ ?_ ?_);exact I5.out;rfl;rfl;rfl) | ((with_reducible refine load_m s3 Tryz.underlying51 ?_ ?_ ?_ ?_ ?_);exact I3.out;rfl;rfl;rfl))
    have hl:(loadVar 147 ⟨w.heap.size+1+1,0,none⟩).run Tryz.prog W9=.ok (.agg #[.slice none 0 0,.slice none 0 0,.int .i64 0,.int .i64 0,.int .i64 0,.int .i64 0,.int .i64 0,.int .i64 0,.int .i64 0,.slice none 0 0,.slice none 0 0,.slice none 0 0,.int .i64 0,.int .i64 0,.slice none 0 0,.int .i64 0,.slice none 0 0]) W9:=run_loadVar_mid W9 (w.heap.size+1+1) 0 147 [.slice none 0 0,.slice none 0 0,.int .i64 0,.int .i64 0,.int .i64 0,.int .i64 0,.int .i64 0,.int .i64 0,.int .i64 0,.slice none 0 0,.slice none 0 0,.slice none 0 0,.int .i64 0,.int .i64 0,.slice none 0 0,.int .i64 0,.slice none 0 0] _ r9 Tryz.underlying147 rfl (by kernel_rfl)
    refine bodyPost_ret (v:=.tuple #[.agg #[.slice none 0 0,.slice none 0 0,.int .i64 0,.int .i64 0,.int .i64 0,.int .i64 0,.int .i64 0,.int .i64 0,.int .i64 0,.slice none 0 0,.slice none 0 0,.slice none 0 0,.int .i64 0,.int .i64 0,.slice none 0 0,.int .i64 0,.slice none 0 0],.bool false]) ((results_cell_tmp Tryz.results106 _ _ _).trans (by simp [asAddr,hl])) rfl ⟨rfl,K9⟩
   ·rw [hg2] at CR
    clear hg2
    rw [if_pos rfl]
    go_enter Tryz.func106,Tryz.ntmps106
    go_upto_region 1 with (fail)
    generalize (((w.alloc (.cells #[.slice At nt ct,.slice Ak nk ck,.int .i64 a,.int .i64 b,.int .i64 c,.int .i64 d,.int .i64 e,.int .i64 W,.int .i64 H,.slice Ax nx cx,.slice Ar nr cr,.slice Ay ny cy] 47)).alloc (.cells #[.int .i64 T,.int .i64 Z,.slice Au nu cu] 51)).alloc (.cells #[.slice none 0 0,.slice none 0 0,.int .i64 0,.int .i64 0,.int .i64 0,.int .i64 0,.int .i64 0,.int .i64 0,.int .i64 0,.slice none 0 0,.slice none 0 0,.slice none 0 0,.int .i64 0,.int .i64 0,.slice none 0 0,.int .i64 0,.slice none 0 0] 147))=W0 at *
    have k0:=Kp.refl W0
    obtain⟨s12,s5,s3,t17,g0,g1⟩:=H0.out _ k0
    go_wp2_with (first | ((with_reducible refine load_m s12 Tryz.underlying47 ?_ ?_ ?_ ?_ ?_);exact I12.out;rfl;rfl;rfl) | ((with_reducible refine load_m s5 Tryz.underlying45 ?_ ?_ ?_ ?_ ?_);exact I5.out;rfl;rfl;rfl) | ((with_reducible refine load_m s3 Tryz.underlying51 ?_ ?_ ?_ ?_ ?_);exact I3.out;rfl;rfl;rfl))
    refine(CG.out _ (HSP.out.keep (KA.trans k0)) (HT.out.keep (KA.trans k0)) (HU.out.keep (KA.trans k0)) (HB.out.keep (KA.trans k0)) (HS.out.keep (KA.trans k0))).mono ?_
    rintro e1 w1 ⟨rfl,q1⟩
    have k1:=k0.trans q1
    clear q1 s12 s5 s3 t17 g0 g1
    obtain⟨s12,s5,s3,t17,g0,g1⟩:=H0.out _ k1
    clear k0
    go_wp2_with (first | ((with_reducible refine load_m s12 Tryz.underlying47 ?_ ?_ ?_ ?_ ?_);exact I12.out;rfl;rfl;rfl) | ((with_reducible refine load_m s5 Tryz.underlying45 ?_ ?_ ?_ ?_ ?_);exact I5.out;rfl;rfl;rfl) | ((with_reducible refine load_m s3 Tryz.underlying51 ?_ ?_ ?_ ?_ ?_);exact I3.out;rfl;rfl;rfl))
    refine(CH.out _).mono ?_
    rintro e2 w2 ⟨rfl,q2⟩
    have k2:=k1.trans q2
    clear q2 s12 s5 s3 t17 g0 g1
    obtain⟨s12,s5,s3,t17,g0,g1⟩:=H0.out _ k2
    clear k1
    go_wp2_with (first | ((with_reducible refine load_m s12 Tryz.underlying47 ?_ ?_ ?_ ?_ ?_);exact I12.out;rfl;rfl;rfl) | ((with_reducible refine load_m s5 Tryz.underlying45 ?_ ?_ ?_ ?_ ?_);exact I5.out;rfl;rfl;rfl) | ((with_reducible refine load_m s3 Tryz.underlying51 ?_ ?_ ?_ ?_ ?_);exact I3.out;rfl;rfl;rfl))
    refine(CR.out _ (HQ.out.keep (KA.trans k2))).mono ?_
    rintro e3 w3 ⟨rfl,q3⟩
    have k3:=k2.trans q3
    clear q3 s12 s5 s3 t17 g0 g1
    obtain⟨s12,s5,s3,t17,g0,g1⟩:=H0.out _ k3
    clear t17
    have t17:w3.there (w.heap.size+1+1) 0 (#[.slice At nt ct,.slice Ak nk ck,.int .i64 a,.int .i64 b,.int .i64 c,.int .i64 d,.int .i64 e,.int .i64 W,.int .i64 H,.slice Ax nx cx,.slice Ar nr cr,.slice Ay ny cy,.int .i64 T,.int .i64 Z,.slice Au nu cu,.int .i64 sd,.slice Aq nq cq]:Array Value).size:=(H0.out _ k3).2.2.2.1
    obtain⟨W9,hW9⟩:∃ W9,W9=w3.setCells (w.heap.size+1+1) 0 (#[.slice At nt ct,.slice Ak nk ck,.int .i64 a,.int .i64 b,.int .i64 c,.int .i64 d,.int .i64 e,.int .i64 W,.int .i64 H,.slice Ax nx cx,.slice Ar nr cr,.slice Ay ny cy,.int .i64 T,.int .i64 Z,.slice Au nu cu,.int .i64 sd,.slice Aq nq cq]:Array Value).toList:=⟨_,rfl⟩
    have r9:World.rangeAt W9 (w.heap.size+1+1) 0 [.slice At nt ct,.slice Ak nk ck,.int .i64 a,.int .i64 b,.int .i64 c,.int .i64 d,.int .i64 e,.int .i64 W,.int .i64 H,.slice Ax nx cx,.slice Ar nr cr,.slice Ay ny cy,.int .i64 T,.int .i64 Z,.slice Au nu cu,.int .i64 sd,.slice Aq nq cq]:=by
     rw [hW9]
     exact World.rangeAt_setCells_same _ _ _ _ t17
    have K9:Kp w W9:=by
     rw [hW9]
     exact kp_cells (by omega) _ _ _ (KA.trans k3)
    have HW9:=Lib.hid hW9
    clear hW9
    go_wp2_with (first | ((with_reducible refine store_m t17 ?_ ?_ ?_ ?_ ?_ ?_);exact I17.out;(simp [Value.oneCell']);rfl;rfl;rfl;rw [← HW9.out]) | ((with_reducible refine load_m s12 Tryz.underlying47 ?_ ?_ ?_ ?_ ?_);exact I12.out;rfl;rfl;rfl) | ((with_reducible refine load_m s5 Tryz.underlying45 ?_ ?_ ?_ ?_ ?_);exact I5.out;rfl;rfl;rfl) | ((with_reducible refine load_m s3 Tryz.underlying51 ?_ ?_ ?_ ?_ ?_);exact I3.out;rfl;rfl;rfl))
    have hl:(loadVar 147 ⟨w.heap.size+1+1,0,none⟩).run Tryz.prog W9=.ok (.agg #[.slice At nt ct,.slice Ak nk ck,.int .i64 a,.int .i64 b,.int .i64 c,.int .i64 d,.int .i64 e,.int .i64 W,.int .i64 H,.slice Ax nx cx,.slice Ar nr cr,.slice Ay ny cy,.int .i64 T,.int .i64 Z,.slice Au nu cu,.int .i64 sd,.slice Aq nq cq]) W9:=run_loadVar_mid W9 (w.heap.size+1+1) 0 147 [.slice At nt ct,.slice Ak nk ck,.int .i64 a,.int .i64 b,.int .i64 c,.int .i64 d,.int .i64 e,.int .i64 W,.int .i64 H,.slice Ax nx cx,.slice Ar nr cr,.slice Ay ny cy,.int .i64 T,.int .i64 Z,.slice Au nu cu,.int .i64 sd,.slice Aq nq cq] _ r9 Tryz.underlying147 rfl (by kernel_rfl)
    refine bodyPost_ret (v:=.tuple #[.agg #[.slice At nt ct,.slice Ak nk ck,.int .i64 a,.int .i64 b,.int .i64 c,.int .i64 d,.int .i64 e,.int .i64 W,.int .i64 H,.slice Ax nx cx,.slice Ar nr cr,.slice Ay ny cy,.int .i64 T,.int .i64 Z,.slice Au nu cu,.int .i64 sd,.slice Aq nq cq],.bool true]) ((results_cell_tmp Tryz.results106 _ _ _).trans (by simp [asAddr,hl])) rfl ⟨rfl,K9⟩
theorem supplierOf_any (At Ak:Option Addr) (nt nk ct ck:Nat) (l:List Ter) (m:List Knd) (a b c d e W H:Int) (x r y:Value) (lt lr ld:List Int) (T Z:Int) (u:Value) (us:List Uni) (sd:Int) (Aq:Option Addr) (nq cq:Nat) (ls:List Int) (w:World) (hs:Spans w) (ht:Tab w) (hu:SpU w) (hB:BrdAt w At Ak nt nk l m x r y lt lr ld) (hS:StaAt w u us) (hq:RdI w (.slice Aq nq cq) ls) (hql:ls.length≤1048576) :
  Calls Tryz.prog 106 #[bv (.slice At nt ct) (.slice Ak nk ck) a b c d e W H x r y,sv T Z u,.int .i64 sd,.slice Aq nq cq] w fun e' w'=>e'=.returned (.tuple #[(if (((brdOk ⟨l,m,a,b,c,d,e⟩ W H lt lr ld && staOk ⟨l,m,a,b,c,d,e⟩ W H lt T Z us) && spB 0 1 sd) && srcOk W H ls)=true then .agg #[.slice At nt ct,.slice Ak nk ck,.int .i64 a,.int .i64 b,.int .i64 c,.int .i64 d,.int .i64 e,.int .i64 W,.int .i64 H,x,r,y,.int .i64 T,.int .i64 Z,u,.int .i64 sd,.slice Aq nq cq] else .agg #[.slice none 0 0,.slice none 0 0,.int .i64 0,.int .i64 0,.int .i64 0,.int .i64 0,.int .i64 0,.int .i64 0,.int .i64 0,.slice none 0 0,.slice none 0 0,.slice none 0 0,.int .i64 0,.int .i64 0,.slice none 0 0,.int .i64 0,.slice none 0 0]),.bool (((brdOk ⟨l,m,a,b,c,d,e⟩ W H lt lr ld && staOk ⟨l,m,a,b,c,d,e⟩ W H lt T Z us) && spB 0 1 sd) && srcOk W H ls)])∧Kp w w':=by
 obtain⟨Ax,cx,rfl,_⟩:=hB.L.rt
 obtain⟨Ar,cr,rfl,_⟩:=hB.L.rr
 obtain⟨Ay,cy,rfl,_⟩:=hB.L.rd
 obtain⟨Au,cu,rfl,_⟩:=hS.rd
 exact supplierOf_s At Ak nt nk ct ck l m a b c d e W H Ax Ar Ay lt.length cx lr.length cr ld.length cy lt lr ld T Z Au us.length cu us sd Aq nq cq ls w hs ht hu hB hS hq hql
end Go.Proofs.YtacgknllagdkoaaGreatDoor
