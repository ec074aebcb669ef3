/-
 The reference's search for supply: for each hex the least number of steps from a source over hexes that can be used. In memory of its own; nothing that was there is changed.
-/
import Derived.Test.YtacgknllagdkoaaGreatDoorSuM
import Derived.Deep.Cut
import Derived.Maps.AppendAt
import Derived.Deep.RegionHeld3
import Derived.Test.YtacgknllagdkoaaGreatDoorQa
import Derived.Test.YtacgknllagdkoaaGreatDoorQc
import Derived.Test.YtacgknllagdkoaaGreatDoorQe
import Derived.Test.YtacgknllagdkoaaGreatDoorQl
import Derived.Test.YtacgknllagdkoaaGreatDoorQa
namespace Go.Proofs.YtacgknllagdkoaaGreatDoor
open Go.RowKit
/-- The slice v reads as n bools. -/
def RdBo (w:World) (v:Value) (n:Nat) (f:Nat→Bool):Prop :=
 ∃ A c,v=.slice A n c∧(0<n→∃ g off,A=some ⟨g,off,none⟩∧∀ j,j<n→w.cell? ⟨g,off+j,none⟩=some (.bool (f j)))
theorem grow5 {W0 w w1:World} {row:Option Nat} {b:Nat} {v0 v1 v2 v3 v4:Value} (h:cb5 w b v0 v1 v2 v3 v4 (Kp W0 w)) (g:w.grownBy w1 row) {B:Nat} (hr:∀ k,row=some k→B≤k) (hb:b<B:=by omega) (h0:W0.heap.size≤B:=by omega) :
  cb5 w1 b v0 v1 v2 v3 v4 (Kp W0 w1):=by
 have hn:some b ≠ row:=fun e=>by have:=hr b e.symm;omega
 exact⟨g.cell h.1 hn,g.cell h.2.1 hn,g.cell h.2.2.1 hn,g.cell h.2.2.2.1 hn,g.cell h.2.2.2.2.1 hn,h.2.2.2.2.2.grown g (fun k e=>by have:=hr k e;omega)⟩
theorem put5 {W0 w:World} {b:Nat} {v0 v1 v2 v3 v4:Value} (h:cb5 w b v0 v1 v2 v3 v4 (Kp W0 w)) (g j:Nat) (u:Value) (hb:b ≠ g) (h0:W0.heap.size≤g) :
  cb5 (w.setCell ⟨g,j,none⟩ u) b v0 v1 v2 v3 v4 (Kp W0 (w.setCell ⟨g,j,none⟩ u)):=by
 have hn:∀ o,(w.setCell ⟨g,j,none⟩ u).cell? ⟨b,o,none⟩=w.cell? ⟨b,o,none⟩:=fun o=>World.cell?_setCell_other _ _ _ _ (fun e=>hb (by simp only [Addr.mk.injEq] at e;exact e.1.symm))
 exact⟨(hn _).trans h.1,(hn _).trans h.2.1,(hn _).trans h.2.2.1,(hn _).trans h.2.2.2.1,(hn _).trans h.2.2.2.2.1,h.2.2.2.2.2.setCell h0 u⟩
theorem s6to5 {W0 w:World} {p0 p1 p2 p3 p4 p5:Addr} {v0 v1 v2 v3 v4 v5:Value} (h:w.cell? p0=some v0∧w.cell? p1=some v1∧w.cell? p2=some v2∧w.cell? p3=some v3∧w.cell? p4=some v4∧w.cell? p5=some v5∧Kp W0 w):w.cell? p0=some v0∧w.cell? p1=some v1∧w.cell? p2=some v2∧w.cell? p3=some v3∧w.cell? p4=some v4∧Kp W0 w:=⟨h.1,h.2.1,h.2.2.1,h.2.2.2.1,h.2.2.2.2.1,h.2.2.2.2.2.2⟩
theorem OwnI.at {w:World} {base:Nat} {v:Value} {l:List Int} (h:OwnI w base v l) {j:Nat} {x:Int} (hj:l[j]?=some x):∃ g c,v=.slice (some ⟨g,0,none⟩) l.length c∧w.cell? ⟨g,j,none⟩=some (.int .i64 x):=by
 have hl:=(List.getElem?_eq_some_iff.1 hj).1
 have h0:w.ownsRow base 3 1 v l.length (cellsI l):=h
 rcases h.2 with ⟨_,hn⟩ | ⟨g,cap,cur,hv,_⟩
 ·omega
 ·refine⟨g,cap,hv,?_⟩
  rw [hv] at h0
  exact(World.ownsRow.cellAt h0 j (by omega)).trans (by simp [cellsI,hj])
/-- A neighbour's turn in the reference's search. -/
theorem nb_step {ok:Nat→Bool} {p:Nat} {W H:Int} {x q:Nat} {Q Q4:List (Nat × Nat)} (h:Q4=bfExt (fun (p:Nat) _=>p+1) ok p Q (nbT W H x q)) :
  (nbM W H x q=false→bfExt (fun (p:Nat) _=>p+1) ok p Q (nbT W H x (q+1))=Q4) ∧
  (nbM W H x q=true→bfExt (fun (p:Nat) _=>p+1) ok p Q (nbT W H x (q+1))=bfAdd (fun (p:Nat) _=>p+1) ok p Q4 (nbI W x q).toNat):=by
 subst h
 exact⟨fun h=>by rw [nbT_no h],fun h=>by rw [nbT_yes h,bfExt_snoc]⟩
theorem keepj6 {W0 w w1:World} {p0 p1 p2 p3 p4 p5:Addr} {v0 v1 v2 v3 v4 v5:Value} (k:Kp w w1) (h:w.cell? p0=some v0∧w.cell? p1=some v1∧w.cell? p2=some v2∧w.cell? p3=some v3∧w.cell? p4=some v4∧w.cell? p5=some v5∧Kp W0 w):w1.cell? p0=some v0∧w1.cell? p1=some v1∧w1.cell? p2=some v2∧w1.cell? p3=some v3∧w1.cell? p4=some v4∧w1.cell? p5=some v5∧Kp W0 w1 :=
 ⟨k.cell h.1,k.cell h.2.1,k.cell h.2.2.1,k.cell h.2.2.2.1,k.cell h.2.2.2.2.1,k.cell h.2.2.2.2.2.1,h.2.2.2.2.2.2.trans k⟩
set_option maxRecDepth 100000 in
set_option maxHeartbeats 4000000 in
theorem jFar_any (W H:Int) (x r y:Value) (ok:Nat→Bool) (N:Nat) (src:List Nat) (vo vq:Value) (w:World) (a:1≤W) (b:W≤10) (c:1≤H) (e:H≤10) (hN:(N:Int)=W*H)
  (ho:RdBo w vo N ok) (hq:RdI w vq (ints src)) (hs:∀ k ∈ src,k<N) (hnd:src.Nodup) :
  Calls Tryz.prog 115 #[mp W H x r y,vo,vq] w fun e' w'=>∃ v,e'=.returned v∧OwnI w' w.heap.size v (farL ok W H src N)∧Kp w w':=by
 have hA:=area_bd a b c e
 have hN1:1≤N:=by omega
 have hN2:N≤100:=by omega
 obtain⟨Ao,co,rfl,ho⟩:=ho
 obtain⟨gq,oq,rfl,hco⟩:=ho (by omega)
 have hsl:src.length≤100:=by have:=nodup_le hnd hs;omega
 obtain⟨Aq,cq,rfl,hq⟩:=hq
 have HQ0:Hid (0<src.length→∃ g off,Aq=some ⟨g,off,none⟩∧∀ (i k:Nat),src[i]?=some k→w.cell? ⟨g,off+i,none⟩=some (.int .i64 (k:Int))):=Lib.hid fun h0=>by
  obtain⟨g,off,h1,h2⟩:=hq (by rw [ints_len];exact h0)
  exact⟨g,off,h1,fun i k hk=>h2 i _ (ints_at hk)⟩
 have HCO:=Lib.hid hco
 have HS:=Lib.hid hs
 have HND:=Lib.hid hnd
 have HNN:=Lib.hid hN
 have el:(ints src).length=src.length:=ints_len src
 rw [el]
 have HE:=Lib.hid (show farL ok W H src N=farT N (srcQ ok W H src N) from rfl)
 rw [HE.out]
 have HLS:Hid (∀ n,(srcQ ok W H src n).length≤N):=Lib.hid fun n=>bfQ_len hs (fun _ _ _ h=>nbT_bd hN h) n
 have HPL:Hid (∀ (n j:Nat) (e:Nat × Nat),(srcQ ok W H src n)[j]?=some e→e.2≤j+1):=Lib.hid fun n j e h=>bfQ_place (fun n:Nat=>n) rfl (fun _ _=>rfl) n j e h
 have HTK:=Lib.hid (List.take_length (l:=src))
 generalize hM:src.length=M at *
 have HM:=Lib.hid hM
 have s0:=new5 w (.int .i64 W) (.int .i64 H) x r y 45
 have hz:(w.alloc (.cells #[.int .i64 W,.int .i64 H,x,r,y] 45)).heap.size=w.heap.size+1:=by simp
 have s1:=keep5 ((Kp.refl _).alloc (.cells (madeCells #[.int .i64 0] N) 3)) s0
 have HO0:Hid (OwnI ((w.alloc (.cells #[.int .i64 W,.int .i64 H,x,r,y] 45)).alloc (.cells (madeCells #[.int .i64 0] N) 3)) (w.heap.size+1) (.slice (some ⟨w.heap.size+1,0,none⟩) N N) (negT N 0)):=Lib.hid (by
  have h:=ownI_zero (w.alloc (.cells #[.int .i64 W,.int .i64 H,x,r,y] 45)) N (by omega)
  rw [hz] at h
  rw [negT_zero]
  exact h)
 have HZ:Hid (w.heap.size+2≤((w.alloc (.cells #[.int .i64 W,.int .i64 H,x,r,y] 45)).alloc (.cells (madeCells #[.int .i64 0] N) 3)).heap.size):=Lib.hid (by simp)
 have hmk:=fun w=>mkInts N (by omega) w
 obtain⟨j0,hj0,hz0,hs0,hb0⟩:=info_parts infoInt
 clear ho hq hs hnd hM hco HE hz el s0 hN
 go_enter Tryz.func115,Tryz.ntmps115
 go_upto_region 2 with (fail)
 clear hmk
 generalize (w.alloc (.cells #[.int .i64 W,.int .i64 H,x,r,y] 45)).alloc (.cells (madeCells #[.int .i64 0] N) 3)=W1 at *
 go_wp2_with fail
 go_loopw [8,20] (fun _ i wx=>∃ q:Nat,q≤N∧i=.int .i64 q∧Hid (OwnI wx (w.heap.size+1) (.slice (some ⟨w.heap.size+1,0,none⟩) N N) (negT N q))∧Hid (w.heap.size+2≤wx.heap.size)∧cb5 wx (w.heap.size) (.int .i64 W) (.int .i64 H) (x) (r) (y) (Kp w wx)) (fun _ i _=>N - (intOf i).toNat)
 case atStart=>exact⟨0,by omega,rfl,HO0,HZ,s1⟩
 case round =>
  clear HO0 HZ s1
  obtain⟨q,hqn,rfl,HO,HZ,sr⟩:=hrel
  by_cases hlt:q<N
  ·have hlt':(q:Int)<N:=by omega
   obtain⟨⟨u,hu⟩,hf,ho3⟩:=OwnI.put HO.out (negT_len N q) hlt (-1)
   rw [← negT_next hlt] at ho3
   have HO3:=Lib.hid ho3
   have s3:=put5 sr (w.heap.size+1) q (.int .i64 (-1)) (by omega) (by omega)
   have HZ3:Hid (w.heap.size+2≤(wr.setCell ⟨w.heap.size+1,q,none⟩ (.int .i64 (-1))).heap.size):=Lib.hid (by have:=HZ.out;simpa [World.setCell] using this)
   clear ho3 HO sr HZ
   go_wp2_with fail
   go_roundw
   case rel=>exact⟨q+1,by omega,by go_num,HO3,HZ3,s3⟩
   case measure=>simp [intOf];omega
  ·obtain rfl:N=q:=by omega
   have HO1:Hid (OwnI wr (w.heap.size+1) (.slice (some ⟨w.heap.size+1,0,none⟩) N N) (farT N [])):=Lib.hid (by rw [← negT_all];exact HO.out)
   have HQ1:Hid (OwnI wr (w.heap.size+2) (.slice none 0 0) (ints (keysQ ([]:List (Nat × Nat))))):=Lib.hid (OwnI.nil _ _)
   have HI0:Hid (([]:List (Nat × Nat))=bfExt (fun (p:Nat) _=>p+1) ok 0 [] (src.take 0)∧Srq N []):=Lib.hid ⟨by simp [bfExt],Srq.nil N⟩
   have H00:=HZ
   have s00:=sr
   clear HO sr HZ hqn hlt
   go_wp2_with fail
   go_loopw [9,11,29] (fun v _ i wx=>∃ (V:Value) (q:Nat) (Q:List (Nat × Nat)),V=v∧q≤M∧i=.int .i64 q∧Hid (Q=bfExt (fun (p:Nat) _=>p+1) ok 0 [] (src.take q)∧Srq N Q)∧Hid (OwnI wx (w.heap.size+1) (.slice (some ⟨w.heap.size+1,0,none⟩) N N) (farT N Q))∧Hid (OwnI wx (w.heap.size+2) v (ints (keysQ Q)))∧Hid (w.heap.size+2≤wx.heap.size)∧cb5 wx (w.heap.size) (.int .i64 W) (.int .i64 H) (x) (r) (y) (Kp w wx)) (fun _ _ i _=>M - (intOf i).toNat)
   case atStart=>exact⟨_,0,[],rfl,by omega,rfl,HI0,HO1,HQ1,H00,s00⟩
   case round =>
    clear HO1 HQ1 HI0 H00 s00
    obtain⟨V,q,Q,hV,hqn,rfl,HI,HO,HQ,HZ,sr⟩:=hrel
    subst hV
    by_cases hlt:q<M
    ·have hlt':(q:Int)<M:=by omega
     obtain⟨gs,os,rfl,hcs⟩:=HQ0.out (by omega)
     obtain⟨k,hk⟩:∃ k,src[q]?=some k:=⟨src[q]'(by have:=HM.out;omega),List.getElem?_eq_getElem _⟩
     have hkN:=HS.out k (List.mem_of_getElem? hk)
     have a0:=sr.2.2.2.2.2.cell (hcs q k hk)
     have a1:=sr.2.2.2.2.2.cell (HCO.out k hkN)
     have HST:=Lib.hid (src_step (ok:=ok) hk HND.out)
     have hkN':(k:Int)<N:=by omega
     clear hcs hk
     cases hok:ok k
     ·rw [hok] at a1
      have HI2:Hid (Q=bfExt (fun (p:Nat) _=>p+1) ok 0 [] (src.take (q+1))∧Srq N Q):=Lib.hid ⟨by rw [HST.out.2 hok];exact HI.out.1,HI.out.2⟩
      clear HST HI hok
      go_wp2_with fail
      go_roundw
      case rel=>exact⟨_,q+1,Q,rfl,by omega,by go_num,HI2,HO,HQ,HZ,sr⟩
      case measure=>simp [intOf];omega
     ·rw [hok] at a1
      have hnew:∀ e ∈ Q,e.1 ≠ k:=by rw [HI.out.1];exact(HST.out.1 hok).2
      have HI2:Hid (Q++[(k,1)]=bfExt (fun (p:Nat) _=>p+1) ok 0 [] (src.take (q+1))∧Srq N (Q++[(k,1)])):=Lib.hid ⟨by rw [(HST.out.1 hok).1,← HI.out.1],HI.out.2.add hkN (by omega) (by omega) hnew⟩
      obtain⟨⟨u,hu⟩,hf,ho3⟩:=OwnI.put HO.out (farT_len N Q) hkN 0
      have HO3:Hid (OwnI (wr.setCell ⟨w.heap.size+1,k,none⟩ (.int .i64 0)) (w.heap.size+1) (.slice (some ⟨w.heap.size+1,0,none⟩) N N) (farT N (Q++[(k,1)]))):=Lib.hid (by rw [farT_new hnew];exact ho3)
      have HQ3:Hid (OwnI (wr.setCell ⟨w.heap.size+1,k,none⟩ (.int .i64 0)) (w.heap.size+2) V (ints (keysQ Q))):=Lib.hid (HQ.out.far (HQ.out.not (by omega)) _)
      have s3:=put5 sr (w.heap.size+1) k (.int .i64 0) (by omega) (by omega)
      have HZ3:Hid (w.heap.size+2≤(wr.setCell ⟨w.heap.size+1,k,none⟩ (.int .i64 0)).heap.size):=Lib.hid (by have:=HZ.out;simpa [World.setCell] using this)
      have hln:Hid ((ints (keysQ Q)).length≤100):=Lib.hid (by rw [ints_len,keysQ_len];have:=HI.out.2.len;omega)
      have HQA:Hid (ints (keysQ (Q++[(k,1)]))=ints (keysQ Q)++[(k:Int)]):=Lib.hid (by rw [keysQ_snoc,ints_append];rfl)
      clear ho3 HO HQ sr HZ hnew HST HI hok
      have HZ:=HZ3
      clear HZ3
      go_upto_region 13 with (fail)
      generalize wr.setCell ⟨w.heap.size+1,k,none⟩ (.int .i64 0)=w2 at *
      clear a0 a1 hu hf
      go_wp2_with (at_builtin;refine wpList_append_own_at _ rfl (.tmp 40) (.tmp 42) 26 rfl (w.heap.size+2) 3 j0 (.int .i64 0) 1 8 Tryz.underlying26 hj0 hz0 hs0 hb0 rfl (by decide) _ (ints (keysQ Q)).length (cellsI (ints (keysQ Q))) rfl (World.ownsRow.alloc HQ3.out _) ⟨w2.heap.size,0,none⟩ 1 1 [.int .i64 (k:Int)] rfl rfl (one_cell _ _ _) (by simp [Value.oneCell']) (by have:=hln.out;simp only [maxLen];omega) (by have:=hln.out;omega) (by have h5:=s3.2.2.2.2.2.size;have h6:=HZ.out;simp;omega) ?_;intro v' w3 hown2 hgrow2 hnil2 hat2;clear hnil2 hat2;have hrow:∀ k,(V).ownBlock=some k→w.heap.size+2≤k:=fun k e=>(World.ownsRow.lt HQ3.out k e).1;have s5:=grow5 (keep5 ((Kp.refl _).alloc _) s3) hgrow2 hrow;have OO3:=Lib.hid (World.ownsRow.kept (World.ownsRow.alloc HO3.out _) hgrow2 (.inr fun e=>by have h9:w.heap.size+2≤w.heap.size+1:=hrow _ e.symm;omega));have OQ3:=Lib.hid (OwnI.snoc (x:=(k:Int)) hown2);clear hown2 hgrow2 hrow)
      go_roundw
      case rel=>exact⟨_,q+1,Q++[(k,1)],rfl,by omega,by go_num,HI2,OO3,by rw [HQA.out];exact OQ3,Lib.hid (by have h8:w.heap.size+1<w3.heap.size:=(World.ownsRow.lt OO3.out _ rfl).2;omega),s5⟩
      case measure=>simp [intOf];omega
    ·obtain rfl:M=q:=by omega
     have HI3:Hid (Q=srcQ ok W H src 0∧0≤Q.length∧Srq N Q):=Lib.hid ⟨by rw [HI.out.1,← HM.out,List.take_length];rfl,by omega,HI.out.2⟩
     have HO1:=HO
     have HQ1:=HQ
     have H00:=HZ
     have s00:=sr
     clear HO HQ HZ sr HI hqn hlt
     go_wp2_with fail
     go_loopw [9,12,13,14] (fun v i _ _ wx=>∃ (V:Value) (n:Nat) (Q:List (Nat × Nat)),V=v∧i=.int .i64 n∧Hid (Q=srcQ ok W H src n∧n≤Q.length∧Srq N Q)∧Hid (OwnI wx (w.heap.size+1) (.slice (some ⟨w.heap.size+1,0,none⟩) N N) (farT N Q))∧Hid (OwnI wx (w.heap.size+2) v (ints (keysQ Q)))∧Hid (w.heap.size+2≤wx.heap.size)∧cb5 wx (w.heap.size) (.int .i64 W) (.int .i64 H) (x) (r) (y) (Kp w wx)) (fun _ i _ _ _=>N - (intOf i).toNat)
     case atStart=>exact⟨_,0,Q,rfl,rfl,HI3,HO1,HQ1,H00,s00⟩
     case round =>
      clear HO1 HQ1 HI3 H00 s00
      obtain⟨V,n,Q,hV,rfl,HI,HO,HQ,HZ,sr⟩:=hrel
      subst hV
      have hnQ:=HI.out.2.1
      have hQN:=HI.out.2.2.len
      obtain⟨Av,cv,hv0⟩:∃ A c,V=.slice A Q.length c:=by
       obtain⟨A,c,h⟩:=HQ.out.slice
       exact⟨A,c,by rw [h,ints_len,keysQ_len]⟩
      subst hv0
      by_cases hlt:n<Q.length
      ·have hlt':(n:Int)<Q.length:=by omega
       obtain⟨⟨x0,p⟩,hxp⟩:∃ z,Q[n]?=some z:=⟨Q[n],List.getElem?_eq_getElem hlt⟩
       have hxb:=HI.out.2.2.bd _ (List.mem_of_getElem? hxp)
       have hpn:p≤n+1:=HPL.out n n (x0,p) (by rw [← HI.out.1];exact hxp)
       simp only at hxb
       have HXP:=Lib.hid hxp
       have HNX:Hid (bfExt (fun (p:Nat) _=>p+1) ok p Q (nbT W H x0 6)=srcQ ok W H src (n+1)):=Lib.hid (by
        have h1:=HI.out.1
        have h2:=bfQ_next (nx:=(fun (p:Nat) _=>p+1)) (ok:=ok) (nb:=fun x=>nbT W H x 6) (p0:=0) (src:=src) (n:=n) (e:=(x0,p)) (by rw [h1] at hxp;exact hxp)
        rw [h1]
        exact h2.symm)
       have HI4:Hid (Q=bfExt (fun (p:Nat) _=>p+1) ok p Q (nbT W H x0 0)∧Srq N Q):=Lib.hid ⟨rfl,HI.out.2.2⟩
       obtain⟨Q0,HQ0e⟩:∃ Q0,Hid (Q0=Q):=⟨Q,Lib.hid rfl⟩
       clear hxp
       have hn2:n<N:=by omega
       go_wp2_with fail
       go_loopw [9,13,14] (fun v i _ wx=>∃ (q:Nat) (Q4:List (Nat × Nat)),q≤6∧i=.int .i64 q∧Hid (Q4=bfExt (fun (p:Nat) _=>p+1) ok p Q (nbT W H x0 q)∧Srq N Q4)∧Hid (OwnI wx (w.heap.size+1) (.slice (some ⟨w.heap.size+1,0,none⟩) N N) (farT N Q4))∧Hid (OwnI wx (w.heap.size+2) v (ints (keysQ Q4)))∧Hid (w.heap.size+2≤wx.heap.size)∧cb5 wx (w.heap.size) (.int .i64 W) (.int .i64 H) (x) (r) (y) (Kp w wx)) (fun _ i _ _=>6 - (intOf i).toNat)
       case atStart=>exact⟨0,Q,by omega,rfl,HI4,HO,HQ,HZ,sr⟩
       case round =>
        clear HO HQ HI4 HZ sr
        obtain⟨q,Q4,hqn,rfl,HI4,HO,HQ,HZ,sr⟩:=hrel
        have hx4:Q4[n]?=some (x0,p):=by
         obtain⟨t4,ht4⟩:=bfExt_prefix (nx:=(fun (p:Nat) _=>p+1)) (ok:=ok) p (nbT W H x0 q) Q
         rw [HI4.out.1,ht4,List.getElem?_append_left hlt]
         exact HXP.out
        have hL4:n<Q4.length:=(List.getElem?_eq_some_iff.1 hx4).1
        obtain⟨gv,cv4,hv4,hcv⟩:=HQ.out.at (ints_at (j:=n) (k:=x0) (keysQ_at hx4))
        rw [ints_len,keysQ_len] at hv4
        subst hv4
        have hcx:wr.cell? ⟨w.heap.size+1,x0,none⟩=some (.int .i64 ((p:Int) - 1)):=by
         obtain⟨g,c9,h1,h2⟩:=HO.out.at (farT_at (Q:=Q4) hxb.1)
         have hg:g=w.heap.size+1:=by
          simp only [Value.slice.injEq,Option.some.injEq,Addr.mk.injEq] at h1
          exact h1.1.1.symm
         rw [hg] at h2
         rw [lookN_mem (e:=(x0,p)) HI4.out.2.nd (List.mem_of_getElem? hx4)] at h2
         exact h2
        by_cases hlt4:q<6
        ·have hlt4':(q:Int)<6:=by omega
         have HNB:=Lib.hid (nb_step (ok:=ok) HI4.out.1)
         have hx0':(x0:Int)<N:=by omega
         have hL4':(n:Int)<Q4.length:=by omega
         have CM:Hid (∀ w,Calls Tryz.prog 123 #[mp W H x r y,.int .i64 (x0:Int),.int .i64 (q:Int)] w fun e w'=>e=.returned (.int .i64 (orNo (nbM W H x0 q) (nbI W x0 q)))∧Kp w w'):=Lib.hid fun w=>mNext_any W H x r y x0 q w a b c e (by omega) (by have:=HNN.out;omega) (by omega) (by omega)
         cases hnb:nbM W H x0 q
         ·rw [hnb,orNo_false] at CM
          have HI5:Hid (Q4=bfExt (fun (p:Nat) _=>p+1) ok p Q (nbT W H x0 (q+1))∧Srq N Q4):=Lib.hid ⟨(HNB.out.1 hnb).symm,HI4.out.2⟩
          clear HNB HI4 hnb
          go_wp2_with fail
          have s2:cb5 (wr.drew) (w.heap.size) (.int .i64 W) (.int .i64 H) (x) (r) (y) (wr.drew.cell? ⟨gv,n,none⟩=some (.int .i64 (x0:Int))∧Kp w wr.drew):=⟨sr.1,sr.2.1,sr.2.2.1,sr.2.2.2.1,sr.2.2.2.2.1,hcv,sr.2.2.2.2.2.drew⟩
          clear sr
          go_region_held3 (fun w'=>cb5 w' (w.heap.size) (.int .i64 W) (.int .i64 H) (x) (r) (y) (w'.cell? ⟨gv,n,none⟩=some (.int .i64 (x0:Int))∧Kp w w')) (first | assumption | exact s2)
           (first | (go_at_call 123;refine(CM.out _).mono ?_;rintro e3 w3 ⟨rfl,k3⟩;have s3:=keepj6 k3 (by assumption)))
          have k3:Kp wr w3:=((Kp.refl wr).drew).trans k3
          have s5:=s6to5 s3
          have k5:=s5.2.2.2.2.2
          have HO5:=Lib.hid (HO.out.keep k3)
          have HQ5:=Lib.hid (HQ.out.keep k3)
          have HZ5:Hid (w.heap.size+2≤w3.heap.size):=Lib.hid (by have:=HZ.out;have:=k3.size;omega)
          clear s3 HO HQ HZ k3
          go_wp2_with fail
          go_roundw
          case rel=>exact⟨q+1,Q4,by omega,by go_num,HI5,HO5,HQ5,HZ5,s5⟩
          case measure=>simp [intOf];omega
         ·rw [hnb,orNo_true] at CM
          have hnb1:=idx_bd hnb
          obtain⟨kx,hkx⟩:=Int.eq_ofNat_of_zero_le hnb1.1
          have hkx1:nbI W (x0:Int) (q:Int)=(kx:Int):=hkx
          rw [hkx1] at CM
          have hkN:kx<N:=by
           have:=HNN.out
           have h9:(kx:Int)<W*H:=by rw [← hkx1];exact hnb1.2
           omega
          have HB5:Hid (bfExt (fun (p:Nat) _=>p+1) ok p Q (nbT W H x0 (q+1))=bfAdd (fun (p:Nat) _=>p+1) ok p Q4 kx):=Lib.hid (by
           rw [HNB.out.2 hnb,hkx1,Int.toNat_natCast])
          have hkN':(kx:Int)<N:=by omega
          have a1:=sr.2.2.2.2.2.cell (HCO.out kx hkN)
          clear HNB hnb hnb1 hkx hkx1
          cases hok:ok kx
          ·rw [hok] at a1
           have HI5:Hid (Q4=bfExt (fun (p:Nat) _=>p+1) ok p Q (nbT W H x0 (q+1))∧Srq N Q4):=Lib.hid ⟨by rw [HB5.out,bfAdd_no hok],HI4.out.2⟩
           clear HB5 HI4 hok
           go_wp2_with fail
           have s2:cb5 (wr.drew) (w.heap.size) (.int .i64 W) (.int .i64 H) (x) (r) (y) (wr.drew.cell? ⟨gv,n,none⟩=some (.int .i64 (x0:Int))∧Kp w wr.drew):=⟨sr.1,sr.2.1,sr.2.2.1,sr.2.2.2.1,sr.2.2.2.2.1,hcv,sr.2.2.2.2.2.drew⟩
           clear sr
           go_region_held3 (fun w'=>cb5 w' (w.heap.size) (.int .i64 W) (.int .i64 H) (x) (r) (y) (w'.cell? ⟨gv,n,none⟩=some (.int .i64 (x0:Int))∧Kp w w')) (first | assumption | exact s2)
            (first | (go_at_call 123;refine(CM.out _).mono ?_;rintro e3 w3 ⟨rfl,k3⟩;have s3:=keepj6 k3 (by assumption)))
           have k3:Kp wr w3:=((Kp.refl wr).drew).trans k3
           have s5:=s6to5 s3
           have HO5:=Lib.hid (HO.out.keep k3)
           have HQ5:=Lib.hid (HQ.out.keep k3)
           have HZ5:Hid (w.heap.size+2≤w3.heap.size):=Lib.hid (by have:=HZ.out;have:=k3.size;omega)
           have a5:=k3.cell a1
           clear s3 HO HQ HZ k3 a1
           go_wp2_with fail
           go_roundw
           case rel=>exact⟨q+1,Q4,by omega,by go_num,HI5,HO5,HQ5,HZ5,s5⟩
           case measure=>simp [intOf];omega
          ·rw [hok] at a1
           have a2:wr.cell? ⟨w.heap.size+1,kx,none⟩=some (.int .i64 (((lookN 0 Q4 kx:Nat):Int) - 1)):=by
            obtain⟨g,c9,h1,h2⟩:=HO.out.at (farT_at (Q:=Q4) hkN)
            have hg:g=w.heap.size+1:=by
             simp only [Value.slice.injEq,Option.some.injEq,Addr.mk.injEq] at h1
             exact h1.1.1.symm
            rw [hg] at h2
            exact h2
           rcases HI4.out.2.look kx with ⟨hl0,hnew⟩ | ⟨hl1,hl2,hin⟩
           ·rw [hl0] at a2
            have HI5:Hid (Q4++[(kx,p+1)]=bfExt (fun (p:Nat) _=>p+1) ok p Q (nbT W H x0 (q+1))∧Srq N (Q4++[(kx,p+1)])):=Lib.hid ⟨by rw [HB5.out,bfAdd_new hnew hok],HI4.out.2.add hkN (by omega) (by omega) hnew⟩
            have hln:Hid ((ints (keysQ Q4)).length≤100):=Lib.hid (by rw [ints_len,keysQ_len];have:=HI4.out.2.len;omega)
            have HQA:Hid (ints (keysQ (Q4++[(kx,p+1)]))=ints (keysQ Q4)++[(kx:Int)]):=Lib.hid (by rw [keysQ_snoc,ints_append];rfl)
            have HFN:Hid (farT N (Q4++[(kx,p+1)])=(farT N Q4).set kx ((p:Int) - 1+1)):=Lib.hid (by rw [farT_new hnew];congr 1;omega)
            clear HB5 HI4 hok hnew hl0
            go_wp2_with fail
            have s2:cb5 (wr.drew) (w.heap.size) (.int .i64 W) (.int .i64 H) (x) (r) (y) (wr.drew.cell? ⟨gv,n,none⟩=some (.int .i64 (x0:Int))∧Kp w wr.drew):=⟨sr.1,sr.2.1,sr.2.2.1,sr.2.2.2.1,sr.2.2.2.2.1,hcv,sr.2.2.2.2.2.drew⟩
            clear sr
            go_region_held3 (fun w'=>cb5 w' (w.heap.size) (.int .i64 W) (.int .i64 H) (x) (r) (y) (w'.cell? ⟨gv,n,none⟩=some (.int .i64 (x0:Int))∧Kp w w')) (first | assumption | exact s2)
             (first | (go_at_call 123;refine(CM.out _).mono ?_;rintro e3 w3 ⟨rfl,k3⟩;have s3:=keepj6 k3 (by assumption)))
            have k3:Kp wr w3:=((Kp.refl wr).drew).trans k3
            have s5:=s6to5 s3
            have HO5:=Lib.hid (HO.out.keep k3)
            have HQ5:=Lib.hid (HQ.out.keep k3)
            have HZ5:Hid (w.heap.size+2≤w3.heap.size):=Lib.hid (by have:=HZ.out;have:=k3.size;omega)
            have a5:=k3.cell a1
            have a6:=k3.cell a2
            have a7:=k3.cell hcx
            have a8:=k3.cell hcv
            clear s3 HO HQ HZ k3 a1 a2 hcx hcv
            have hp0:0≤(p:Int) - 1:=by omega
            have hp1:(p:Int) - 1≤100:=by omega
            generalize (p:Int) - 1=P at *
            have hw:IntKind.i64.wrap (P+1)=P+1:=IntWalk.i64_in _ (by omega)
            obtain⟨⟨u,hu⟩,hf,ho3⟩:=OwnI.put HO5.out (farT_len N Q4) hkN (P+1)
            rw [← HFN.out] at ho3
            have HO6:=Lib.hid ho3
            have HQ6:Hid (OwnI (w3.setCell ⟨w.heap.size+1,kx,none⟩ (.int .i64 (P+1))) (w.heap.size+2) (.slice (some ⟨gv,0,none⟩) Q4.length cv4) (ints (keysQ Q4))):=Lib.hid (HQ5.out.far (HQ5.out.not (by omega)) _)
            have s7:=put5 s5 (w.heap.size+1) kx (.int .i64 (P+1)) (by omega) (by omega)
            have HZ:Hid (w.heap.size+2≤(w3.setCell ⟨w.heap.size+1,kx,none⟩ (.int .i64 (P+1))).heap.size):=Lib.hid (by have:=HZ5.out;simpa [World.setCell] using this)
            clear ho3 HO5 HQ5 s5 HZ5
            go_upto_region 24 with (fail)
            generalize w3.setCell ⟨w.heap.size+1,kx,none⟩ (.int .i64 (P+1))=w4 at *
            clear a5 a6 a7 a8 hu hf
            go_wp2_with (at_builtin;refine wpList_append_own_at _ rfl (.tmp 88) (.tmp 90) 26 rfl (w.heap.size+2) 3 j0 (.int .i64 0) 1 8 Tryz.underlying26 hj0 hz0 hs0 hb0 rfl (by decide) _ (ints (keysQ Q4)).length (cellsI (ints (keysQ Q4))) rfl (World.ownsRow.alloc HQ6.out _) ⟨w4.heap.size,0,none⟩ 1 1 [.int .i64 (kx:Int)] rfl rfl (one_cell _ _ _) (by simp [Value.oneCell']) (by have:=hln.out;simp only [maxLen];omega) (by have:=hln.out;omega) (by have h5:=s7.2.2.2.2.2.size;have h6:=HZ.out;simp;omega) ?_;intro v' w3 hown2 hgrow2 hnil2 hat2;clear hnil2 hat2;have hrow:∀ k,(Value.slice (some ⟨gv,0,none⟩) Q4.length cv4).ownBlock=some k→w.heap.size+2≤k:=fun k e=>(World.ownsRow.lt HQ6.out k e).1;have s5:=grow5 (keep5 ((Kp.refl _).alloc _) s7) hgrow2 hrow;have OO3:=Lib.hid (World.ownsRow.kept (World.ownsRow.alloc HO6.out _) hgrow2 (.inr fun e=>by have h9:w.heap.size+2≤w.heap.size+1:=hrow _ e.symm;omega));have OQ3:=Lib.hid (OwnI.snoc (x:=(kx:Int)) hown2);clear hown2 hgrow2 hrow)
            go_roundw
            case rel=>exact⟨q+1,Q4++[(kx,p+1)],by omega,by go_num,HI5,OO3,by rw [HQA.out];exact OQ3,Lib.hid (by have h8:w.heap.size+1<w3.heap.size:=(World.ownsRow.lt OO3.out _ rfl).2;omega),s5⟩
            case measure=>simp [intOf];omega
           ·have hl3:¬ (((lookN 0 Q4 kx:Nat):Int) - 1<0):=by omega
            have HI5:Hid (Q4=bfExt (fun (p:Nat) _=>p+1) ok p Q (nbT W H x0 (q+1))∧Srq N Q4):=Lib.hid ⟨by rw [HB5.out,bfAdd_in hin],HI4.out.2⟩
            generalize ((lookN 0 Q4 kx:Nat):Int) - 1=LK at *
            clear HB5 HI4 hok hin hl1 hl2
            go_wp2_with fail
            have s2:cb5 (wr.drew) (w.heap.size) (.int .i64 W) (.int .i64 H) (x) (r) (y) (wr.drew.cell? ⟨gv,n,none⟩=some (.int .i64 (x0:Int))∧Kp w wr.drew):=⟨sr.1,sr.2.1,sr.2.2.1,sr.2.2.2.1,sr.2.2.2.2.1,hcv,sr.2.2.2.2.2.drew⟩
            clear sr
            go_region_held3 (fun w'=>cb5 w' (w.heap.size) (.int .i64 W) (.int .i64 H) (x) (r) (y) (w'.cell? ⟨gv,n,none⟩=some (.int .i64 (x0:Int))∧Kp w w')) (first | assumption | exact s2)
             (first | (go_at_call 123;refine(CM.out _).mono ?_;rintro e3 w3 ⟨rfl,k3⟩;have s3:=keepj6 k3 (by assumption)))
            have k3:Kp wr w3:=((Kp.refl wr).drew).trans k3
            have s5:=s6to5 s3
            have HO5:=Lib.hid (HO.out.keep k3)
            have HQ5:=Lib.hid (HQ.out.keep k3)
            have HZ5:Hid (w.heap.size+2≤w3.heap.size):=Lib.hid (by have:=HZ.out;have:=k3.size;omega)
            have a5:=k3.cell a1
            have a6:=k3.cell a2
            clear s3 HO HQ HZ k3 a1 a2
            go_wp2_with fail
            go_roundw
            case rel=>exact⟨q+1,Q4,by omega,by go_num,HI5,HO5,HQ5,HZ5,s5⟩
            case measure=>simp [intOf];omega
        ·obtain rfl:q=6:=by omega
         have HI6:Hid (Q4=srcQ ok W H src (n+1)∧n+1≤Q4.length∧Srq N Q4):=Lib.hid ⟨by rw [HI4.out.1,HNX.out],hL4,HI4.out.2⟩
         go_wp2_with fail
         go_roundw
         case rel=>exact⟨_,n+1,Q4,rfl,by go_num,HI6,HO,HQ,HZ,sr⟩
         case measure=>simp [intOf];omega
      ·obtain rfl:n=Q.length:=by omega
       have HF:Hid (farT N Q=farT N (srcQ ok W H src N)):=Lib.hid (by
        have h1:=bfQ_fin (nx:=(fun (p:Nat) _=>p+1)) (ok:=ok) (nb:=fun x=>nbT W H x 6) (p0:=0) (src:=src) (n:=Q.length) (N:=N) (by
         have h2:=HI.out.1
         exact Nat.le_of_eq (congrArg List.length h2).symm) hQN
        have h3:=HI.out.1
        unfold srcQ at h3 ⊢
        rw [h1,← h3])
       have k9:=sr.2.2.2.2.2
       have HO9:Hid (OwnI wr (w.heap.size+1) (.slice (some ⟨w.heap.size+1,0,none⟩) N N) (farT N (srcQ ok W H src N))):=Lib.hid (by rw [← HF.out];exact HO.out)
       clear HF HI HQ HO
       go_wp2_with fail
       go_ret
       exact⟨_,rfl,HO9.out.base (b:=w.heap.size) (by omega),k9⟩
end Go.Proofs.YtacgknllagdkoaaGreatDoor
