/-
 The laws' marking of copied sheets: only the copy's own blocks are written, and the number handed back is not less.
-/
import Derived.Test.YtacgknllagdkoaaGreatDoorOrB
import Derived.Test.YtacgknllagdkoaaGreatDoorQa
import Derived.Test.YtacgknllagdkoaaGreatDoorQk
import Derived.Test.YtacgknllagdkoaaGreatDoorQa
namespace Go.Proofs.YtacgknllagdkoaaGreatDoor
open Go.RowKit
/-- What the marking of orders needs of the orders from the q-th on. -/
def RestO (w:World) (g q:Nat) (l:List Odr) (cs:List (Option Addr × Nat)) (ys:List Value):Prop :=
 ∀ (j:Nat) (x:Odr) (c:Option Addr × Nat),q≤j→l[j]?=some x→cs[j]?=some c→ys[j*3+1]?=some (.slice c.1 x.p.length c.2)∧OwnI w (g+1) (.slice c.1 x.p.length c.2) x.p
set_option maxRecDepth 100000 in
set_option maxHeartbeats 4000000 in
theorem markOrderS_w (g n:Nat) (l:List Odr) (cs:List (Option Addr × Nat)) (ys:List Value) (k0:Int) (lo hi:Nat) (w:World) (h:OwnOd w g n l cs ys) (hl:l.length=n) (hc:cs.length=n) (hn:n≤1048576) (hb:∀ x ∈ l,x.p.length≤1048576) (hlo:lo≤g) (hg:g<hi)
  (hhi:∀ (j:Nat) (c:Option Addr × Nat) (x b:Nat),cs[j]?=some c→(Value.slice c.1 x c.2).ownBlock=some b→b<hi) (p0:0≤k0) (p1:k0≤200000000000000) :
  Calls Tryz.prog 98 #[.slice (some ⟨g,0,none⟩) n n,.int .i64 k0] w fun e w'=>∃ k',e=.returned (.int .i64 k')∧k0≤k'∧k'≤k0+1048580*(n:Int)∧Mk lo hi w w':=by
 have HN:=Lib.hid hl
 have HC:=Lib.hid hc
 have HB:=Lib.hid hb
 have HHI:=Lib.hid hhi
 have HAP:=Lib.hid h.apart
 have R0:=Lib.hid h.row
 have S0:Hid (RestO w g 0 l cs ys):=Lib.hid fun j x c _ hx hcj=>⟨(h.here j x c hx hcj).2.1,h.each j x c hx hcj⟩
 have hgw:g<w.heap.size:=(World.ownsRow.lt h.row g rfl).2
 clear h hl hc hb hhi
 go_enter Tryz.func98,Tryz.ntmps98
 go_wp2_with fail
 go_loopw [1,5] (fun kk i wr=>∃ (q:Nat) (k:Int) (ys:List Value),q≤n∧i=.int .i64 q∧kk=.int .i64 k∧k0≤k∧k≤k0+1048580*(q:Int)∧Hid (wr.ownsRow g 53 3 (.slice (some ⟨g,0,none⟩) n n) n ys)∧Hid (RestO wr g q l cs ys)∧Mk lo hi w wr∧w.heap.size≤wr.heap.size) (fun _ i _=>n - (intOf i).toNat)
 case atStart=>exact⟨0,_,ys,by omega,rfl,rfl,by omega,by omega,R0,S0,Mk.refl _ _ _,Nat.le_refl _⟩
 case round =>
  clear R0 S0
  obtain⟨q,k,zs,hq,rfl,rfl,hk0,hk1,HR,HS,mk,hz⟩:=hrel
  by_cases hlt:q<n
  ·have hlt':(q:Int)<n:=by omega
   obtain⟨x,hx⟩:∃ x,l[q]?=some x:=⟨l[q]'(by have:=HN.out;omega),List.getElem?_eq_getElem _⟩
   obtain⟨c,hc⟩:∃ c,cs[q]?=some c:=⟨cs[q]'(by have:=HC.out;omega),List.getElem?_eq_getElem _⟩
   have hnc:=HB.out x (List.mem_of_getElem? hx)
   have HX:=Lib.hid hx
   have HCC:=Lib.hid hc
   have hrq:=HS.out q x c (Nat.le_refl _) hx hc
   obtain⟨Ac,cc⟩:=c
   simp only at hrq
   have HO:=Lib.hid hrq.2
   have HY:=Lib.hid hrq.1
   have HZ:Hid (zs.length=n*3):=Lib.hid HR.out.1
   have HBL:Hid (∀ b,(Value.slice Ac x.p.length cc).ownBlock=some b→g+1≤b∧b<wr.heap.size∧b<hi):=Lib.hid fun b hb=>⟨(World.ownsRow.lt HO.out b hb).1,(World.ownsRow.lt HO.out b hb).2,HHI.out q _ _ b hc hb⟩
   generalize hcl:x.p.length=nc at HO HY hnc HBL
   have HCL:=Lib.hid hcl
   obtain⟨⟨u0,b0⟩,f0⟩:=liveN HR.out (j:=q*3) (by omega)
   have hgr:g<wr.heap.size:=by omega
   have R2:=Lib.hid (HR.out.stored (q*3) (.int .i64 k)).1
   have O2:Hid ((wr.setCell ⟨g,q*3,none⟩ (.int .i64 k)).ownsRow (g+1) 3 1 (.slice Ac nc cc) nc (cellsI x.p)):=Lib.hid (by
    have:=HO.out.kp_set (Kp.refl wr) (g:=g) (j:=q*3) (by omega) (.int .i64 k)
    unfold OwnI at this
    rw [HCL.out] at this
    exact this)
   have c1:(wr.setCell ⟨g,q*3,none⟩ (.int .i64 k)).cell? ⟨g,q*3+1,none⟩=some (.slice Ac nc cc):=by
    refine(R2.out.cellAt (q*3+1) (by omega)).trans ?_
    rw [List.getElem?_set_ne (by omega)]
    exact HY.out
   have m1:Mk lo hi w (wr.setCell ⟨g,q*3,none⟩ (.int .i64 k)):=mk.set hlo hg _
   have hz1:wr.heap.size≤(wr.setCell ⟨g,q*3,none⟩ (.int .i64 k)).heap.size:=by simp
   have e1:IntKind.i64.wrap (k+1)=k+1:=IntWalk.i64_in _ (by omega)
   clear hx hc hrq hcl
   go_upto_region 6 with (fail)
   generalize hW:wr.setCell ⟨g,q*3,none⟩ (.int .i64 k)=W1 at *
   clear b0 f0
   go_wp2_with fail
   refine(markIntS_own _ _ (g+1) _ _ _ (by omega) (by omega) hnc O2.out).mono ?_
   rintro e2 w2 ⟨rfl,_,g2⟩
   have R3:=Lib.hid (live_grown R2.out g2 (fun e=>by have:=HBL.out g e.symm;omega))
   have m2:Mk lo hi w w2:=m1.grown g2 (by omega) (fun b e=>by have:=HBL.out b e;omega)
   have hz2:W1.heap.size≤w2.heap.size:=g2.size
   have S2:Hid (∀ (j:Nat) (y:Odr) (d:Option Addr × Nat),q+1≤j→l[j]?=some y→cs[j]?=some d→OwnI w2 (g+1) (.slice d.1 y.p.length d.2) y.p):=Lib.hid fun j y d hj hy hd=>by
    have h1:=(HS.out j y d (by omega) hy hd).2
    have h2:OwnI W1 (g+1) (.slice d.1 y.p.length d.2) y.p:=by
     rw [← hW]
     exact h1.kp_set (Kp.refl wr) (by omega) _
    refine World.ownsRow.kept h2 g2 ?_
    cases hb:(Value.slice d.1 y.p.length d.2).ownBlock
    ·exact .inl rfl
    ·rename_i b
     refine .inr fun e=>?_
     exact HAP.out q j _ d (by omega) HCC.out hd nc y.p.length b e.symm hb
   obtain⟨⟨u2,b2⟩,f2⟩:=liveN R3.out (j:=q*3+2) (by omega)
   have e3:IntKind.i64.wrap (k+1+nc+1)=k+1+nc+1:=IntWalk.i64_in _ (by omega)
   clear g2 hW O2 R2 c1 m1
   go_wp2_with fail
   go_roundw
   case rel =>
    refine⟨q+1,_,_,by omega,by go_num,rfl,by omega,by omega,Lib.hid (R3.out.stored (q*3+2) _).1,Lib.hid ?_,m2.set hlo hg _,by simp;omega⟩
    intro j y d hj hy hd
    have h1:=(HS.out j y d (by omega) hy hd).1
    refine⟨?_,?_⟩
    ·rw [List.getElem?_set_ne (by omega),List.getElem?_set_ne (by omega)]
     exact h1
    ·have h2:=S2.out j y d hj hy hd
     have n1:=h2.not (g:=g) (by omega)
     exact h2.far n1 _
   case measure=>simp [intOf];omega
  ·obtain rfl:q=n:=by omega
   go_wp2_with fail
   go_ret
   exact⟨_,rfl,hk0,hk1,mk⟩
theorem markSheet_w (s:Int) (g:Nat) (l:List Odr) (cs:List (Option Addr × Nat)) (ys:List Value) (k0:Int) (lo hi:Nat) (w:World) (h:OwnOd w g l.length l cs ys) (hc:cs.length=l.length) (hs:smO l) (hlo:lo≤g) (hg:g<hi)
  (hhi:∀ (j:Nat) (c:Option Addr × Nat) (x b:Nat),cs[j]?=some c→(Value.slice c.1 x c.2).ownBlock=some b→b<hi) (hw:hi≤w.heap.size) (p0:0≤k0) (p1:k0≤200000000000000) :
  Calls Tryz.prog 40 #[hv s (.slice (some ⟨g,0,none⟩) l.length l.length),.int .i64 k0] w fun e w'=>∃ k',e=.returned (.int .i64 k')∧k0≤k'∧k'≤k0+1048580*(l.length:Int)∧Mk lo hi w w':=by
 have ka:Kp w (w.alloc (.cells #[.int .i64 s,.slice (some ⟨g,0,none⟩) l.length l.length] 67)):=(Kp.refl w).alloc _
 have C:=Lib.hid (markOrderS_w g l.length l cs ys k0 lo hi _ (h.keep ka) rfl hc hs.1 hs.2 hlo hg hhi p0 p1)
 have m0:Mk lo hi w (w.alloc (.cells #[.int .i64 s,.slice (some ⟨g,0,none⟩) l.length l.length] 67)):=Mk.of_kp ka (by omega)
 generalize l.length=n at *
 clear h hc hs hhi
 go_enter Tryz.func40,Tryz.ntmps40
 go_wp2_with fail
 refine C.out.mono ?_
 rintro e1 w1 ⟨k1,rfl,h1,h2,m1⟩
 go_wp2_with fail
 go_ret
 exact⟨_,rfl,h1,h2,m0.trans m1⟩
theorem OwnOd.markd {lo hi g n:Nat} {w w':World} {l:List Odr} {cs:List (Option Addr × Nat)} {ys:List Value} (h:OwnOd w g n l cs ys) (m:Mk lo hi w w') (hg:hi≤g):OwnOd w' g n l cs ys :=
 ⟨m.own h.row (fun k e=>by have:=(World.ownsRow.lt h.row k e).1;omega),h.here,fun j x c hx hc=>m.own (h.each j x c hx hc) (fun k e=>by have:=(World.ownsRow.lt (h.each j x c hx hc) k e).1;omega),h.apart⟩
theorem OwnOd.hi {g:Nat} {w:World} {l:List Odr} {cs:List (Option Addr × Nat)} {ys:List Value} (h:OwnOd w g l.length l cs ys) (hc:cs.length=l.length):∀ (j:Nat) (c:Option Addr × Nat) (x b:Nat),cs[j]?=some c→(Value.slice c.1 x c.2).ownBlock=some b→b<w.heap.size:=fun j c x b hj hb=>by
 have hjl:=(List.getElem?_eq_some_iff.1 hj).1
 have hx:l[j]?=some (l[j]'(by omega)):=List.getElem?_eq_getElem _
 exact(World.ownsRow.lt (h.each j _ c hx hj) b ((ownBlock_len _ _ _ _).trans hb)).2
end Go.Proofs.YtacgknllagdkoaaGreatDoor
