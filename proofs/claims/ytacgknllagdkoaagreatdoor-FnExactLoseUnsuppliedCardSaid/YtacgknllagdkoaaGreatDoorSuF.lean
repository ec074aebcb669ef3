/-
 The program's search for supply: for each hex the first way with the fewest hexes from a source over hexes that pass a test. In memory of its own; nothing that was there is changed. The table of directions holds what the program's text lays.
-/
import Derived.Maps.AppendAt
import Derived.Deep.Cut
import Derived.Deep.RegionHeld3
import Derived.Test.YtacgknllagdkoaaGreatDoorSuN
import Derived.Test.YtacgknllagdkoaaGreatDoorSuA
import Derived.Test.YtacgknllagdkoaaGreatDoorHel
import Derived.Test.YtacgknllagdkoaaGreatDoorQa
import Derived.Test.YtacgknllagdkoaaGreatDoorQa
namespace Go.Proofs.YtacgknllagdkoaaGreatDoor
open Go.RowKit
/-- What is known of the program's queue under way. -/
structure Wrq (N:Nat) (Q:List (Nat × List Nat)):Prop where
 nd:keysNodup Q
 bd:∀ e ∈ Q,e.1<N∧1≤e.2.length∧e.2.length≤101
theorem Wrq.nil (N:Nat):Wrq N []:=⟨by simp [keysNodup],fun e he=>by cases he⟩
theorem Wrq.len {N:Nat} {Q:List (Nat × List Nat)} (h:Wrq N Q):Q.length≤N:=by
 have h1:=nodup_le h.nd (N:=N) (fun k hk=>by
  obtain⟨e,he,rfl⟩:=List.mem_map.1 hk
  exact(h.bd e he).1)
 simpa using h1
theorem Wrq.look {N:Nat} {Q:List (Nat × List Nat)} (h:Wrq N Q) (k:Nat):(lookN [] Q k=[]∧∀ e ∈ Q,e.1 ≠ k)∨(1≤(lookN [] Q k).length∧(lookN [] Q k).length≤101∧∃ e ∈ Q,e.1=k):=by
 rcases lookN_cases [] Q k with ⟨h1,h2⟩ | ⟨e,he,h1,h2⟩
 ·exact .inl ⟨h2,h1⟩
 ·rw [h2]
  exact .inr ⟨(h.bd e he).2.1,(h.bd e he).2.2,e,he,h1⟩
theorem Wrq.add {N:Nat} {Q:List (Nat × List Nat)} (h:Wrq N Q) {k:Nat} {p:List Nat} (hk:k<N) (hp:1≤p.length) (hp2:p.length≤101) (hn:∀ e ∈ Q,e.1 ≠ k):Wrq N (Q++[(k,p)]):=by
 refine⟨?_,fun e he=>?_⟩
 ·have h1:=h.nd
  unfold keysNodup at h1 ⊢
  rw [List.map_append,List.nodup_append]
  refine⟨h1,by simp,fun a ha b hb e=>?_⟩
  obtain⟨x,hx,rfl⟩:=List.mem_map.1 ha
  simp only [List.map_cons,List.map_nil,List.mem_cons,List.not_mem_nil,or_false] at hb
  exact hn x hx (by rw [e,hb])
 ·rcases List.mem_append.1 he with he | he
  ·exact h.bd e he
  ·have:e=(k,p):=by simpa using he
   subst this
   exact⟨hk,hp,hp2⟩
theorem look_new {Q:List (Nat × List Nat)} {k:Nat} {p:List Nat} (h:∀ e ∈ Q,e.1 ≠ k):lookN [] (Q++[(k,p)])=fun j=>if j=k then p else lookN [] Q j:=funext fun j=>lookN_snoc [] p Q k j h
set_option maxRecDepth 100000 in
set_option maxHeartbeats 4000000 in
theorem extend_any (lb:Array Value) (ok:Nat→Bool) (N GW bw bp br base:Nat) (Q:List (Nat × List Nat)) (p ks:List Nat) (Aw:Option Addr) (np cwv:Nat) (nv vr:Value) (W1 w:World)
  (HP:∀ j:Nat,j<N→∀ w,Kp W1 w→Calls Tryz.prog 205 (#[.int .i64 (j:Int)]++lb) w fun e' w'=>e'=.returned (.bool (ok j))∧Kp w w')
  (hk:Kp W1 w) (hb1:W1.heap.size≤GW) (hb2:W1.heap.size≤br) (hF:FwAt w GW bw br base N (lookN [] Q) (keysQ Q) vr) (hQ:Wrq N Q)
  (hp:w.cell? ⟨bp,0,none⟩=some (.func (.func 205) #[] lb)) (hbp:bp<base∧bp ≠ GW∧bp ≠ br)
  (hw:RdI w (.slice Aw np cwv) (ints p)) (hpl:p.length=np) (hA0:np=0→Aw=none∧cwv=0) (hcw:np≤cwv) (hp100:np≤100) (hwb:AwayI w (.slice Aw np cwv) GW br vr)
  (hn:RdI w nv (ints ks)) (hnb:AwayI w nv GW br vr) (hks:∀ k ∈ ks,k<N) (hk6:ks.length≤100) (hN:N≤100) :
  Calls Tryz.prog 234 #[.slice Aw np cwv,nv,.pointer (some ⟨bw,0,none⟩),.pointer (some ⟨bp,0,none⟩),.pointer (some ⟨br,0,none⟩)] w fun e' w'=>e'=.returned (.tuple #[])∧∃ vr',FwAt w' GW bw br base N (lookN [] (bfExt (fun (p:List Nat) k=>p++[k]) ok p Q ks)) (keysQ (bfExt (fun (p:List Nat) k=>p++[k]) ok p Q ks)) vr'∧Wrq N (bfExt (fun (p:List Nat) k=>p++[k]) ok p Q ks)∧OthK GW br w w' vr vr':=by
 have hvr:∀ g,vr.ownBlock=some g→base≤g:=fun g e=>(World.ownsRow.lt hF.que g e).1
 have hbase:=hF.lt
 obtain⟨An,cn,rfl,hn0⟩:=id hn
 rw [ints_len]
 have HNR:=Lib.hid (fun (wx:World) (vx:Value) (k:OthK GW br w wx vr vx)=>RdI.oth hn hnb k)
 have HWR:=Lib.hid (fun (wx:World) (vx:Value) (k:OthK GW br w wx vr vx)=>And.intro (RdI.oth hw hwb k) (hwb.oth k))
 have HPR:=Lib.hid (fun (wx:World) (vx:Value) (k:OthK GW br w wx vr vx)=>And.intro (k.cell hp hbp.2.1 hbp.2.2 (fun e=>by have h8:=hvr bp e;have h9:=hbp.1;omega)) (k.kp hk hb1 hb2 (fun g e=>by have:=hvr g e;omega)))
 have HPP:=Lib.hid HP
 have HKS:=Lib.hid hks
 have HPL:Hid ((ints p).length=np):=Lib.hid (by rw [ints_len];exact hpl)
 have HA0:Hid (np=0→Aw=none):=Lib.hid fun h=>(hA0 h).1
 have HPLN:=Lib.hid hpl
 have HI0:Hid (Q=bfExt (fun (p:List Nat) k=>p++[k]) ok p Q (ks.take 0)∧Wrq N Q):=Lib.hid ⟨by simp [bfExt],hQ⟩
 have HF0:=Lib.hid hF
 have HO0:=Lib.hid (OthK.refl GW br w vr)
 have HEND:Hid (ks.take ks.length=ks):=Lib.hid List.take_length
 obtain⟨j0,hj0,hz0,hs0,hb0⟩:=info_parts infoInt
 generalize hM:ks.length=M at *
 have HM:=Lib.hid hM
 clear hn hn0 hnb hw hwb hp hbp HP hks hM hF hvr hb1 hb2 hQ hpl
 go_enter Tryz.func234,Tryz.ntmps234
 go_wp2_with fail
 go_loopw [8,11] (fun _ i wx=>∃ (q:Nat) (Q':List (Nat × List Nat)) (vr':Value),q≤M∧i=.int .i64 q∧Hid (Q'=bfExt (fun (p:List Nat) k=>p++[k]) ok p Q (ks.take q)∧Wrq N Q')∧Hid (FwAt wx GW bw br base N (lookN [] Q') (keysQ Q') vr')∧Hid (OthK GW br w wx vr vr')) (fun _ i _=>M - (intOf i).toNat)
 case atStart=>exact⟨0,Q,vr,by omega,rfl,HI0,HF0,HO0⟩
 case round =>
  clear HI0 HF0 HO0
  obtain⟨q,Q',vr',hqn,rfl,HI,HF,HO⟩:=hrel
  by_cases hlt:q<M
  ·have hlt':(q:Int)<M:=by omega
   obtain⟨kx,hkx⟩:∃ k,ks[q]?=some k:=⟨ks[q]'(by have:=HM.out;omega),List.getElem?_eq_getElem _⟩
   have hkN:=HKS.out kx (List.mem_of_getElem? hkx)
   have hkN':(kx:Int)<N:=by omega
   have hTK:Hid (bfExt (fun (p:List Nat) k=>p++[k]) ok p Q (ks.take (q+1))=bfAdd (fun (p:List Nat) k=>p++[k]) ok p Q' kx):=Lib.hid (by
    rw [HI.out.1,List.take_add_one,hkx]
    exact bfExt_snoc _ _ _ _)
   obtain⟨A2,c2,hn2,hn3⟩:=HNR.out _ _ HO.out
   obtain⟨rfl,rfl⟩:An=A2∧cn=c2:=by
    simp only [Value.slice.injEq] at hn2
    exact⟨hn2.1,hn2.2.2⟩
   obtain⟨gn,on,rfl,hnc⟩:=hn3 (by rw [ints_len,HM.out];omega)
   have a0:=hnc q _ (ints_at hkx)
   clear hn2 hn3 hnc hkx
   obtain⟨xw,a1,ow,fw⟩:=HF.out.cell hkN
   obtain⟨Ax,cx,hxw⟩:∃ A c,xw=.slice A (lookN [] Q' kx).length c:=by
    obtain⟨A,c,h⟩:=ow.slice
    exact⟨A,c,by rw [h,ints_len]⟩
   subst hxw
   have a2:=HF.out.cw
   obtain⟨a3,hkr⟩:=HPR.out _ _ HO.out
   rcases HI.out.2.look kx with ⟨hl0,hnew⟩ | ⟨hl1,hl2,hin⟩
   ·rw [hl0] at a1
    simp only [List.length_nil] at a1
    have HC:=Lib.hid (HPP.out kx hkN)
    have hln:Hid ((ints (keysQ Q')).length≤100):=Lib.hid (by rw [ints_len,keysQ_len];have:=HI.out.2.len;omega)
    clear ow fw hl0
    cases hok:ok kx
    ·rw [hok] at HC
     have HI2:Hid (Q'=bfExt (fun (p:List Nat) k=>p++[k]) ok p Q (ks.take (q+1))∧Wrq N Q'):=Lib.hid ⟨by rw [hTK.out,bfAdd_no hok],HI.out.2⟩
     clear hTK HI hok hnew
     go_wp2_with fail
     refine(HC.out _ hkr).mono ?_
     rintro e1 w1 ⟨rfl,k1⟩
     go_wp2_with fail
     go_roundw
     case rel=>exact⟨q+1,Q',vr',by omega,by go_num,HI2,Lib.hid (HF.out.keep k1),Lib.hid (HO.out.trans (OthK.of k1))⟩
     case measure=>simp [intOf];omega
    ·rw [hok] at HC
     have HI2:Hid (Q'++[(kx,p++[kx])]=bfExt (fun (p:List Nat) k=>p++[k]) ok p Q (ks.take (q+1))∧Wrq N (Q'++[(kx,p++[kx])])):=Lib.hid ⟨by rw [hTK.out,bfAdd_new hnew hok],HI.out.2.add hkN (by simp) (by simp only [List.length_append,List.length_cons,List.length_nil];have:=HPLN.out;omega) hnew⟩
     clear hTK HI hok
     go_wp2_with fail
     refine(HC.out _ hkr).mono ?_
     rintro e1 w1 ⟨rfl,k1⟩
     have hF1:=Lib.hid (HF.out.keep k1)
     have HO1:=Lib.hid (HO.out.trans (OthK.of (vr:=vr') k1))
     have HWV:=Lib.hid (HWR.out _ _ HO1.out).1
     have b1:=k1.cell a1
     have b2:=k1.cell a2
     clear HF HO a0 a1 a2 a3 k1 hkr
     go_upto_region 4 with (fail)
     have kV:Kp w1 w1.drew:=(Kp.refl w1).drew
     have sg:w1.drew.cell? ⟨bw,0,none⟩=some (.slice (some ⟨GW,0,none⟩) N N):=kV.cell b2
     clear b1 b2
     refine wp_region_held_drew (S:=(fun w'=>w'.cell? ⟨bw,0,none⟩=some (.slice (some ⟨GW,0,none⟩) N N))) (by kernel_rfl) ?_ (fun hHeld=>?_)
     ·assumption
     generalize w1.drew=V at *
     refine tk 0 ⟨some 26,_,_,_,_,_⟩ ?_ rfl (by kernel_rfl) (fun _ _ _ h=>h) (by rfl) ?_ (by assumption) ?_
     rotate_left
     ·intro w hSw;(try dsimp only at hSw);go_simp;(all_goals with_reducible rfl)
     try simp only [Act.put,sA,sB,sC]
     refine tk 1 ⟨some 27,_,_,_,_,_⟩ ?_ rfl (by kernel_rfl) (fun _ _ _ h=>h) (by rfl) ?_ (by assumption) ?_
     rotate_left
     ·intro w hSw;(try dsimp only at hSw);go_simp;(all_goals with_reducible rfl)
     try simp only [Act.put,sA,sB,sC]
     refine tk 2 ⟨some 28,_,_,_,_,_⟩ ?_ rfl (by kernel_rfl) (fun _ _ _ h=>h) (by rfl) ?_ (by assumption) ?_
     rotate_left
     ·intro w hSw;(try dsimp only at hSw);go_simp;(all_goals with_reducible rfl)
     try simp only [Act.put,sA,sB,sC]
     refine tk 3 ⟨some 29,_,_,_,_,_⟩ ?_ rfl (by kernel_rfl) (fun _ _ _ h=>h) (by rfl) ?_ (by assumption) ?_
     rotate_left
     ·intro w hSw;(try dsimp only at hSw);go_simp;(all_goals with_reducible rfl)
     try simp only [Act.put,sA,sB,sC]
     refine tk 4 ⟨some 30,_,_,_,_,_⟩ ?_ rfl (by kernel_rfl) (fun _ _ _ h=>h) (by rfl) ?_ (by assumption) ?_
     rotate_left
     ·intro w hSw;(try dsimp only at hSw);go_simp;(all_goals with_reducible rfl)
     try simp only [Act.put,sA,sB,sC]
     refine tk 5 ⟨some 31,_,_,_,_,_⟩ ?_ rfl (by kernel_rfl) (fun _ _ _ h=>h) (by rfl) ?_ (by assumption) ?_
     rotate_left
     ·intro w hSw;(try dsimp only at hSw);go_simp;(all_goals with_reducible rfl)
     try simp only [Act.put,sA,sB,sC]
     refine tk 6 ⟨some 32,_,_,_,_,_⟩ ?_ rfl (by kernel_rfl) (fun _ _ _ h=>h) (by rfl) ?_ (by assumption) ?_
     rotate_left
     ·intro w hSw;(try dsimp only at hSw);go_simp;(all_goals with_reducible rfl)
     try simp only [Act.put,sA,sB,sC]
     refine tk 7 ⟨some 33,_,_,_,_,_⟩ ?_ rfl (by kernel_rfl) (fun _ _ _ h=>h) (by rfl) ?_ (by assumption) ?_
     rotate_left
     ·intro w hSw;(try dsimp only at hSw);go_simp;(all_goals with_reducible rfl)
     try simp only [Act.put,sA,sB,sC]
     refine tk 8 ⟨some 34,_,_,_,_,_⟩ ?_ rfl (by kernel_rfl) (fun _ _ _ h=>h) (by rfl) ?_ (by assumption) ?_
     rotate_left
     ·intro w hSw;(try dsimp only at hSw);go_simp;(all_goals with_reducible rfl)
     try simp only [Act.put,sA,sB,sC]
     refine wpAnyH_ready (rs:=[9]) (by kernel_rfl) (by simp) ?_
     refine(AllReadyH.cons (o:=⟨some 35,_,_,_,_,_⟩) rfl (fun K hK=>?_) AllReadyH.nil)
     go_simp
     go_wp2_with fail
     have kA:Kp V (V.alloc (.cells #[.int .i64 (kx:Int)] 3)):=(Kp.refl V).alloc _
     have hA:=kA.cell hHeld
     refine hK.out _ _ ?_ (fun hHeld=>?_)
     ·(try dsimp only);(first | assumption | exact hC)
     clear hK K
     try simp only [Act.put,sA,sB,sC]
     refine wpAnyH_ready (rs:=[10]) (by kernel_rfl) (by simp) ?_
     refine(AllReadyH.cons (o:=⟨some 36,_,_,_,_,_⟩) rfl (fun K hK=>?_) AllReadyH.nil)
     refine step_full (.tmp 33) (.tmp 35) rfl Aw np cwv (ints p) (kx:Int) (by first | rfl | simp [go_sem]) ((HWV.out.keep kV).keep kA) HPL.out HA0.out (by omega) ⟨V.heap.size,0,none⟩ rfl (one_cell _ _ _) ?_
     intro v9 w9 ho9 hg9
     have kB:Kp w1 w9:=(kV.trans kA).grown hg9 (fun k e=>by cases e)
     have hB:=kB.cell hF1.out.cw
     have ho9':OwnI w9 w1.heap.size v9 (ints (p++[kx])):=by
       rw [ints_append]
       exact ho9.base (by have:=kV.size;have:=kA.size;omega)
     obtain⟨A9,c9,n9,hv9⟩:∃ A c n,v9=.slice A n c:=by
       obtain⟨A,c,h⟩:=ho9'.slice
       exact⟨A,c,_,h⟩
     subst hv9
     have HSET:=Lib.hid (hF1.out.set hkN kB ho9')
     clear ho9
     obtain⟨⟨u9,hu9⟩,hf9,F9,O9⟩:=HSET.out
     have HF9:=Lib.hid F9
     have HO9:=Lib.hid O9
     clear F9 O9
     refine hK.out _ _ ?_ (fun hHeld=>?_)
     ·(try dsimp only);(first | assumption | exact hC)
     clear hK K
     try simp only [Act.put,sA,sB,sC]
     refine tk 11 ⟨some 37,_,_,_,_,_⟩ ?_ rfl (by kernel_rfl) (fun _ _ _ h=>h) (by rfl) ?_ (by assumption) ?_
     rotate_left
     ·intro w hSw;(try dsimp only at hSw);go_simp;(all_goals with_reducible rfl)
     try simp only [Act.put,sA,sB,sC]
     refine wpAnyH_ready (rs:=[12]) (by kernel_rfl) (by simp) ?_
     refine(AllReadyH.cons (o:=⟨none,_,_,_,_,_⟩) rfl (fun K hK=>?_) AllReadyH.nil)
     go_simp
     go_wp2_with fail
     have hC:=HF9.out.cw
     refine hK.out _ _ ?_ (fun hHeld=>?_)
     ·(try dsimp only);(first | assumption | exact hC)
     clear hK K
     try simp only [Act.put,sA,sB,sC]
     refine wpAnyH_done (by kernel_rfl) ?_ _
     have HF2:=HF9
     have HO2:=HO9
     clear HF9 HO9 hC hu9 hf9 HSET hB hA ho9'
     generalize w9.setCell ⟨GW,kx,none⟩ (.slice A9 n9 c9)=W5 at *
     have HF3:Hid (FwAt W5 GW bw br base N (lookN [] (Q'++[(kx,p++[kx])])) (keysQ Q') vr'):=Lib.hid (by rw [look_new hnew];exact HF2.out)
     have f1:=HF3.out.cr
     have f2:=HF3.out.fr
     have hsz5:=HF3.out.sz
     clear HF2
     go_wp2_with (at_builtin;refine wpList_append_own_at _ rfl (.tmp 38) (.tmp 40) 26 rfl base 3 j0 (.int .i64 0) 1 8 Tryz.underlying26 hj0 hz0 hs0 hb0 rfl (by decide) _ (ints (keysQ Q')).length (cellsI (ints (keysQ Q'))) rfl (World.ownsRow.alloc HF3.out.que _) ⟨W5.heap.size,0,none⟩ 1 1 [.int .i64 (kx:Int)] rfl rfl (one_cell _ _ _) (by simp [Value.oneCell']) (by have:=hln.out;simp only [maxLen];omega) (by have:=hln.out;omega) (by simp;omega) ?_;intro v' w3 hown2 hgrow2 hnil2 hat2;clear hnil2;have hoN:=OwnI.snoc (x:=(kx:Int)) hown2;obtain⟨A8,c8,n8,hv8⟩:∃ A c n,v'=.slice A n c:=(by obtain⟨A,c,h⟩:=hoN.slice;exact⟨A,c,_,h⟩);subst hv8;have HPU:=Lib.hid (HF3.out.push ((Kp.refl W5).alloc (.cells #[.int .i64 (kx:Int)] 3)) hgrow2 (k:=kx) (by rw [ints_append];exact hoN) hat2);obtain⟨⟨u8,hu8⟩,hf8,_,_⟩:=HPU.out;clear hown2 hgrow2 hat2 hoN)
     go_roundw
     case rel=>exact⟨q+1,Q'++[(kx,p++[kx])],_,by omega,by go_num,HI2,Lib.hid (by rw [keysQ_snoc];exact HPU.out.2.2.1),Lib.hid ((HO1.out.trans HO2.out).trans HPU.out.2.2.2)⟩
     case measure=>simp [intOf];omega
   ·have hl3:¬ ((lookN [] Q' kx).length:Int)=0:=by omega
    have HI2:Hid (Q'=bfExt (fun (p:List Nat) k=>p++[k]) ok p Q (ks.take (q+1))∧Wrq N Q'):=Lib.hid ⟨by rw [hTK.out,bfAdd_in hin],HI.out.2⟩
    generalize (lookN [] Q' kx).length=LX at *
    clear ow fw hTK HI hin hl1 hl2
    go_wp2_with fail
    go_roundw
    case rel=>exact⟨q+1,Q',vr',by omega,by go_num,HI2,HF,HO⟩
    case measure=>simp [intOf];omega
  ·obtain rfl:M=q:=by omega
   have HE:Hid (Q'=bfExt (fun (p:List Nat) k=>p++[k]) ok p Q ks):=Lib.hid (by rw [HI.out.1,HEND.out])
   go_wp2_with fail
   go_end0
   exact⟨rfl,vr',by rw [← HE.out];exact HF.out,by rw [← HE.out];exact HI.out.2,HO.out⟩
end Go.Proofs.YtacgknllagdkoaaGreatDoor
