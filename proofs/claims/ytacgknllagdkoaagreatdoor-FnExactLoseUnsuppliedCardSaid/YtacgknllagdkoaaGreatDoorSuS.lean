/-
 Supply of the reference: blocked hexes, sources, what the functions ask of their arguments. Nothing that was there is changed.
-/
import Derived.Test.YtacgknllagdkoaaGreatDoorSuM
import Derived.Test.YtacgknllagdkoaaGreatDoorZsE
import Derived.Test.YtacgknllagdkoaaGreatDoorQa
namespace Go.Proofs.YtacgknllagdkoaaGreatDoor
open Go.RowKit
set_option maxRecDepth 100000 in
set_option maxHeartbeats 4000000 in
theorem jBlocked_any (At Ak:Option Addr) (nt nk ct ck:Nat) (l:List Ter) (m:List Knd) (a b c d e W H:Int) (x r y:Value) (lt lr ld:List Int) (T Z:Int) (u:Value) (us:List Uni) (sd i:Int) (w:World) (hB:BrdAt w At Ak nt nk l m x r y lt lr ld) (hS:StaAt w u us) (hok:brdOk ⟨l,m,a,b,c,d,e⟩ W H lt lr ld=true) (hst:staOk ⟨l,m,a,b,c,d,e⟩ W H lt T Z us=true) (hi:onI W H i=true) (hsd:sd=0∨sd=1) :
  Calls Tryz.prog 203 #[bv (.slice At nt ct) (.slice Ak nk ck) a b c d e W H x r y,sv T Z u,.int .i64 sd,.int .i64 i] w fun e' w'=>e'=.returned (.bool (blkB l m lt lr ld W us sd i))∧Kp w w':=by
 have hb:=ownN_bd (us:=us) (staOk_parts hst).2.2.1 i
 have KA:Kp w ((w.alloc (.cells #[.slice At nt ct,.slice Ak nk ck,.int .i64 a,.int .i64 b,.int .i64 c,.int .i64 d,.int .i64 e,.int .i64 W,.int .i64 H,x,r,y] 47)).alloc (.cells #[.int .i64 T,.int .i64 Z,u] 51)):=((Kp.refl w).alloc _).alloc _
 have s0:cb12 ((w.alloc (.cells #[.slice At nt ct,.slice Ak nk ck,.int .i64 a,.int .i64 b,.int .i64 c,.int .i64 d,.int .i64 e,.int .i64 W,.int .i64 H,x,r,y] 47)).alloc (.cells #[.int .i64 T,.int .i64 Z,u] 51)) (w.heap.size) (.slice At nt ct) (.slice Ak nk ck) (.int .i64 a) (.int .i64 b) (.int .i64 c) (.int .i64 d) (.int .i64 e) (.int .i64 W) (.int .i64 H) (x) (r) (y) (cb3 ((w.alloc (.cells #[.slice At nt ct,.slice Ak nk ck,.int .i64 a,.int .i64 b,.int .i64 c,.int .i64 d,.int .i64 e,.int .i64 W,.int .i64 H,x,r,y] 47)).alloc (.cells #[.int .i64 T,.int .i64 Z,u] 51)) (w.heap.size+1) (.int .i64 T) (.int .i64 Z) (u) (Kp w ((w.alloc (.cells #[.slice At nt ct,.slice Ak nk ck,.int .i64 a,.int .i64 b,.int .i64 c,.int .i64 d,.int .i64 e,.int .i64 W,.int .i64 H,x,r,y] 47)).alloc (.cells #[.int .i64 T,.int .i64 Z,u] 51)))):=⟨by simp [go_sem],by simp [go_sem],by simp [go_sem],by simp [go_sem],by simp [go_sem],by simp [go_sem],by simp [go_sem],by simp [go_sem],by simp [go_sem],by simp [go_sem],by simp [go_sem],by simp [go_sem],by simp [go_sem],by simp [go_sem],by simp [go_sem],KA⟩
 have HB:=Lib.hid hB
 have HS:=Lib.hid hS
 have CO:=Lib.hid (fun (w:World) hS=>sOwner_any T Z u us i w hS (staOk_parts hst).2.1)
 have CZ:=Lib.hid (fun (w:World) hB hS=>zIn_any At Ak nt nk ct ck l m a b c d e W H x r y lt lr ld T Z u us i (1 - sd) w hB hS hok hst hi)
 have HE:Hid (blkB l m lt lr ld W us sd i=((ownN us i == 1 - sd) || (decide (ownN us i<0) && zonB l m lt lr ld W us (1 - sd) i))):=Lib.hid (blkB_spec hb hsd).symm
 rw [HE.out]
 have hw:IntKind.i64.wrap (1 - sd)=1 - sd:=IntWalk.i64_in _ (by omega)
 generalize ownN us i=X at CO hb ⊢
 generalize zonB l m lt lr ld W us (1 - sd) i=R at CZ ⊢
 clear hB hS hok hst hi HE hsd
 by_cases hx:X=1 - sd
 ·have hx1:(X == 1 - sd)=true:=by simpa using hx
  go_enter Tryz.func203,Tryz.ntmps203
  go_wp2_with fail
  refine(CO.out _ (HS.out.keep KA)).mono ?_
  rintro e1 w1 ⟨rfl,k1⟩
  go_wp2_with fail
  go_ret
  exact⟨ret_bool (by simp [hx1]),KA.trans k1⟩
 ·have hx1:(X == 1 - sd)=false:=by simpa using hx
  by_cases h2:X<0
  ·have h3:decide (X<0)=true:=by simpa using h2
   go_enter Tryz.func203,Tryz.ntmps203
   go_wp2_with fail
   refine(CO.out _ (HS.out.keep KA)).mono ?_
   rintro e1 w1 ⟨rfl,k1⟩
   have s1:=keepe15 k1 s0
   clear s0 k1
   go_wp2_with fail
   refine(CZ.out _ (HB.out.keep s1.2.2.2.2.2.2.2.2.2.2.2.2.2.2.2) (HS.out.keep s1.2.2.2.2.2.2.2.2.2.2.2.2.2.2.2)).mono ?_
   rintro e2 w2 ⟨rfl,k2⟩
   go_wp2_with fail
   go_ret
   exact⟨ret_bool (by simp [hx1,h3]),s1.2.2.2.2.2.2.2.2.2.2.2.2.2.2.2.trans k2⟩
  ·have h3:decide (X<0)=false:=by simpa using h2
   go_enter Tryz.func203,Tryz.ntmps203
   go_wp2_with fail
   refine(CO.out _ (HS.out.keep KA)).mono ?_
   rintro e1 w1 ⟨rfl,k1⟩
   go_wp2_with fail
   go_ret
   exact⟨ret_bool (by simp [hx1,h3]),KA.trans k1⟩
/-- A list of sources. -/
def srcOk (W H:Int) (l:List Int):Bool:=decide (l.length≤6) && incN (onI W H) none l
theorem incN_congr {f g:Int→Bool} (h:∀ x,f x=g x):∀ (l:List Int) (o:Option Int),incN f o l=incN g o l
 | [],_=>rfl
 | x :: l,o=>by simp only [incN];rw [h x,incN_congr h l]
theorem incN_all {f:Int→Bool}:∀ (l:List Int) (o:Option Int),incN f o l=true→(∀ x ∈ l,f x=true)∧l.Pairwise (·<·)∧∀ q,o=some q→∀ x ∈ l,q<x
 | [],_,_=>⟨by simp,List.Pairwise.nil,by simp⟩
 | x :: l,o,h=>by
  simp only [incN,Bool.and_eq_true] at h
  obtain⟨h1,h2,h3⟩:=h
  obtain⟨i1,i2,i3⟩:=incN_all l (some x) h3
  refine⟨?_,?_,?_⟩
  ·intro y hy
   rcases List.mem_cons.1 hy with rfl | hy
   ·exact h1
   ·exact i1 y hy
  ·exact List.pairwise_cons.2 ⟨fun y hy=>i3 x rfl y hy,i2⟩
  ·intro q hq y hy
   subst hq
   have hqx:q<x:=by simpa using h2
   rcases List.mem_cons.1 hy with rfl | hy
   ·exact hqx
   ·exact Int.lt_trans hqx (i3 x rfl y hy)
theorem srcOk_parts {W H:Int} {l:List Int} (h:srcOk W H l=true):l.length≤6∧(∀ x ∈ l,0≤x∧x<W*H)∧l.Pairwise (·<·):=by
 unfold srcOk at h
 rw [Bool.and_eq_true] at h
 obtain⟨i1,i2,_⟩:=incN_all _ _ h.2
 exact⟨by simpa using h.1,fun x hx=>onI_true (i1 x hx),i2⟩
/-- A list of sources as numbers of hexes. -/
def srcN (l:List Int):List Nat:=l.map Int.toNat
theorem srcOk_nat {W H:Int} {l:List Int} (h:srcOk W H l=true):ints (srcN l)=l∧(∀ (N:Nat),(N:Int)=W*H→∀ k ∈ srcN l,k<N)∧(srcN l).Nodup:=by
 obtain⟨_,h2,h3⟩:=srcOk_parts h
 refine⟨ints_toNat fun x hx=>(h2 x hx).1,fun N hN k hk=>?_,?_⟩
 ·obtain⟨x,hx,rfl⟩:=List.mem_map.1 hk
  have:=h2 x hx
  omega
 ·unfold srcN
  refine List.Pairwise.imp (R:=fun a b=>a<b) (fun h=>by omega) ?_
  rw [List.pairwise_map]
  exact List.Pairwise.imp_of_mem (fun {a b} ha hb hab=>by have:=h2 a ha;have:=h2 b hb;omega) h3
set_option maxRecDepth 100000 in
set_option maxHeartbeats 4000000 in
theorem l1Rising_gen (v:Value) (l:List Int) (lo hi:Int) (w:World) (h:RdI w v l) (hl:l.length≤1048576) :
  Calls Tryz.prog 161 #[v,.int .i64 lo,.int .i64 hi] w fun e w'=>e=.returned (.bool (incN (spB lo hi) none l))∧Kp w w':=by
 obtain⟨A,cp,rfl,h⟩:=h
 have HA:=Lib.hid h
 have CI:Hid (∀ n w,Calls Tryz.prog 63 #[.int .i64 n,.int .i64 lo,.int .i64 hi] w fun e w'=>e=.returned (.bool (spB lo hi n))∧w=w'):=Lib.hid fun n w=>l1In_sp n lo hi w
 obtain⟨R,hR⟩:∃ R,R=incN (spB lo hi) none l:=⟨_,rfl⟩
 rw [← hR]
 have HR:=Lib.hid hR
 generalize spB lo hi=f at CI HR
 clear h hR
 generalize hn:l.length=n at *
 have HN:=Lib.hid hn
 clear hn
 go_enter Tryz.func161,Tryz.ntmps161
 go_wp2_with fail
 go_loop [7,8,11] (fun _ _ i=>∃ k:Nat,k≤n∧i=.int .i64 k∧Hid (incN f (prvN l k) (l.drop k)=R)) (fun _ _ i=>n - (intOf i).toNat)
 case atStart=>exact⟨0,by omega,rfl,Lib.hid (by rw [HR.out];rfl)⟩
 case round =>
  obtain⟨k,hkn,rfl,hE⟩:=hrel
  by_cases hlt:k<n
  ·obtain⟨g,off,rfl,hc⟩:=HA.out (by omega)
   obtain⟨x,hx⟩:∃ x,l[k]?=some x:=⟨l[k]'(by have:=HN.out;omega),List.getElem?_eq_getElem _⟩
   have a0:=hc k x hx
   have HC:=Lib.hid (CI.out x)
   have HX:=Lib.hid (drop_step hx)
   have HP1:Hid (prvN l (k+1)=some x):=Lib.hid hx
   have hlt':(k:Int)<n:=by omega
   cases hok:f x
   ·rw [hok] at HC
    have HE2:Hid (R=false):=Lib.hid (by rw [← hE.out,HX.out];simp [incN,hok])
    clear hc hx hok
    go_wp2_with fail
    refine(HC.out _).mono ?_
    rintro e1 w1 ⟨rfl,rfl⟩
    go_wp2_with fail
    go_ret
    exact⟨ret_bool HE2.out.symm,Kp.refl _⟩
   ·rw [hok] at HC
    by_cases h0:k=0
    ·subst h0
     have a1:w.cell? ⟨g,off,none⟩=some (.int .i64 x):=a0
     have HE2:Hid (incN f (prvN l 1) (l.drop 1)=R):=Lib.hid (by
      rw [← hE.out,HX.out,HP1.out]
      simp [incN,hok,prvN])
     clear hc hx hok
     go_wp2_with fail
     refine(HC.out _).mono ?_
     rintro e1 w1 ⟨rfl,rfl⟩
     go_wp2_with fail
     go_round
     case rel=>exact⟨1,by omega,by go_num,HE2⟩
     case measure=>simp [intOf];omega
    ·obtain⟨q,hq⟩:∃ q,l[k - 1]?=some q:=⟨l[k - 1]'(by have:=HN.out;omega),List.getElem?_eq_getElem _⟩
     have HQ:Hid (prvN l k=some q):=Lib.hid (by
      obtain⟨j,rfl⟩:∃ j,k=j+1:=⟨k - 1,by omega⟩
      exact hq)
     have et:((k:Int) - 1).toNat=k - 1:=by omega
     have p0:=hc (k - 1) q hq
     have p1:w.cell? ⟨g,off+((k:Int) - 1).toNat,none⟩=some (.int .i64 q):=by rw [et];exact p0
     have i0:0≤(k:Int) - 1:=by omega
     have i1:(k:Int) - 1<n:=by omega
     have hk0:0<k:=by omega
     by_cases hp:q<x
     ·have hp':¬ x≤q:=by omega
      have HE2:Hid (incN f (prvN l (k+1)) (l.drop (k+1))=R):=Lib.hid (by
       rw [← hE.out,HX.out,HP1.out,HQ.out]
       simp [incN,hok,hp])
      clear hc hx hok hq et
      go_wp2_with fail
      refine(HC.out _).mono ?_
      rintro e1 w1 ⟨rfl,rfl⟩
      go_wp2_with fail
      go_round
      case rel=>exact⟨k+1,by omega,by go_num,HE2⟩
      case measure=>simp [intOf];omega
     ·have hp':x≤q:=by omega
      have HE2:Hid (R=false):=Lib.hid (by rw [← hE.out,HX.out,HQ.out];simp [incN,hp])
      clear hc hx hok hq et
      go_wp2_with fail
      refine(HC.out _).mono ?_
      rintro e1 w1 ⟨rfl,rfl⟩
      go_wp2_with fail
      go_ret
      exact⟨ret_bool HE2.out.symm,Kp.refl _⟩
  ·obtain rfl:k=n:=by omega
   go_wp2_with fail
   go_ret
   refine⟨ret_bool ?_,Kp.refl _⟩
   rw [← hE.out,List.drop_of_length_le (by rw [HN.out];omega)]
   rfl
set_option maxRecDepth 100000 in
set_option maxHeartbeats 4000000 in
theorem jSources_any (At Ak:Option Addr) (nt nk ct ck:Nat) (l:List Ter) (m:List Knd) (a b c d e W H:Int) (x r y:Value) (lt lr ld:List Int) (A:Option Addr) (n cq:Nat) (ls:List Int) (w:World) (hq:RdI w (.slice A n cq) ls) (hn:ls.length=n) (hl:n≤1048576) (hok:brdOk ⟨l,m,a,b,c,d,e⟩ W H lt lr ld=true) :
  Calls Tryz.prog 104 #[bv (.slice At nt ct) (.slice Ak nk ck) a b c d e W H x r y,.slice A n cq] w fun e' w'=>e'=.returned (.bool (srcOk W H ls))∧Kp w w':=by
 obtain⟨p1,p2,p3,p4⟩:=mapOk_side (brdOk_map hok)
 have KA:Kp w (w.alloc (.cells #[.slice At nt ct,.slice Ak nk ck,.int .i64 a,.int .i64 b,.int .i64 c,.int .i64 d,.int .i64 e,.int .i64 W,.int .i64 H,x,r,y] 47)):=(Kp.refl w).alloc _
 have s0:cb12 (w.alloc (.cells #[.slice At nt ct,.slice Ak nk ck,.int .i64 a,.int .i64 b,.int .i64 c,.int .i64 d,.int .i64 e,.int .i64 W,.int .i64 H,x,r,y] 47)) (w.heap.size) (.slice At nt ct) (.slice Ak nk ck) (.int .i64 a) (.int .i64 b) (.int .i64 c) (.int .i64 d) (.int .i64 e) (.int .i64 W) (.int .i64 H) (x) (r) (y) (Kp w (w.alloc (.cells #[.slice At nt ct,.slice Ak nk ck,.int .i64 a,.int .i64 b,.int .i64 c,.int .i64 d,.int .i64 e,.int .i64 W,.int .i64 H,x,r,y] 47))):=⟨by simp [go_sem],by simp [go_sem],by simp [go_sem],by simp [go_sem],by simp [go_sem],by simp [go_sem],by simp [go_sem],by simp [go_sem],by simp [go_sem],by simp [go_sem],by simp [go_sem],by simp [go_sem],KA⟩
 have CS:Hid (∀ w,Calls Tryz.prog 102 #[mp W H x r y] w fun e w'=>e=.returned (.int .i64 (W*H))∧Kp w w'):=Lib.hid fun w=>mSize_any W H x r y w p1 p2 p3 p4
 have hA:=area_bd p1 p2 p3 p4
 have HQ:=Lib.hid hq
 have HE:Hid (srcOk W H ls=(decide (n≤6) && incN (spB 0 (W*H - 1)) none ls)):=Lib.hid (by
  unfold srcOk
  rw [hn,incN_congr (g:=spB 0 (W*H - 1)) (fun x=>by
   unfold onI spB
   congr 1
   exact decide_eq_decide.2 (by omega))])
 have CR:=Lib.hid (fun (w:World) h=>l1Rising_gen (.slice A n cq) ls 0 (W*H - 1) w h (by omega))
 rw [HE.out]
 generalize incN (spB 0 (W*H - 1)) none ls=R at CR ⊢
 have hw:IntKind.i64.wrap (W*H - 1)=W*H - 1:=IntWalk.i64_in _ (by omega)
 generalize W*H=M at *
 clear HE hq hok hn
 by_cases h6:n≤6
 ·have h6':(n:Int)≤6:=by omega
  have h6b:decide (n≤6)=true:=by simpa using h6
  go_enter Tryz.func104,Tryz.ntmps104
  go_wp2_with fail
  refine(CS.out _).mono ?_
  rintro e1 w1 ⟨rfl,k1⟩
  have k10:=KA.trans k1
  go_wp2_with fail
  refine(CR.out _ (HQ.out.keep k10)).mono ?_
  rintro e2 w2 ⟨rfl,k2⟩
  go_wp2_with fail
  go_ret
  exact⟨ret_bool (by simp [h6b]),k10.trans k2⟩
 ·have h6':¬ (n:Int)≤6:=by omega
  have h6b:decide (n≤6)=false:=by simpa using h6
  rw [h6b,Bool.false_and]
  clear h6b
  go_enter Tryz.func104,Tryz.ntmps104
  go_wp2_with fail
  go_ret
  exact⟨rfl,KA⟩
end Go.Proofs.YtacgknllagdkoaaGreatDoor
