/-
 Sheets of orders as arguments of the laws: how they read, their sizes, their copies (in memory of their own), their comparison. Nothing that was there is changed.
-/
import Derived.Test.YtacgknllagdkoaaGreatDoorOrA
import Derived.Test.YtacgknllagdkoaaGreatDoorQa
import Derived.Test.YtacgknllagdkoaaGreatDoorQk
import Derived.Test.YtacgknllagdkoaaGreatDoorQa
namespace Go.Proofs.YtacgknllagdkoaaGreatDoor
open Go.ChangeShapes Go.WideShapes Go.ChangeAt Go.RowKit Go.Joins Go.Deep
set_option maxRecDepth 100000 in
set_option maxHeartbeats 1000000 in
theorem szOrderS_any (A:Option Addr) (n c:Nat) (l:List Odr) (left:Int) (w:World) (h:RdO w A n l) (h0:0≤left) (h1:left≤1048576) (hn:n≤9223372036854775807) (hb:∀ x ∈ l,x.p.length≤9223372036854775807) :
  Calls Tryz.prog 75 #[.slice A n c,.int .i64 left] w (SzPost (n≤1048576∧∀ x ∈ l,x.p.length≤1048576) w):=by
 have HN:=Lib.hid h.1
 have HA:=Lib.hid h.2
 have HB:=Lib.hid hb
 clear h hb
 obtain⟨P,hP⟩:∃ P,P=(n≤1048576∧∀ x ∈ l,x.p.length≤1048576):=⟨_,rfl⟩
 rw [← hP]
 have HP:=Lib.hid hP
 clear hP
 by_cases a1:(n:Int)≤left
 ·have a1':¬ (left - n)<0:=by omega
  go_enter Tryz.func75,Tryz.ntmps75
  go_wp2_with fail
  go_loopw [1,5] (fun v i wr=>∃ (k:Nat) (r:Int),k≤n∧i=.int .i64 k∧v=.int .i64 r∧0≤r∧r≤1048576∧Hid (∀ j x,j<k→l[j]?=some x→x.p.length≤1048576)∧Kp w wr) (fun _ i _=>n - (intOf i).toNat)
  case atStart=>exact⟨0,_,by omega,rfl,rfl,by omega,by omega,Lib.hid fun j x hj=>absurd hj (by omega),Kp.refl _⟩
  case round =>
   obtain⟨k,r,hk,rfl,rfl,r0,r1,hE,kr⟩:=hrel
   by_cases hlt:k<n
   ·have hlt':(k:Int)<n:=by omega
    obtain⟨g,off,rfl,hc⟩:=HA.out (by omega)
    obtain⟨x,hx⟩:∃ x,l[k]?=some x:=⟨l[k]'(by have:=HN.out;omega),List.getElem?_eq_getElem _⟩
    obtain⟨Ac,cc,⟨a0,a1,a2⟩,ra⟩:=(hc k x hx).keep kr
    have HX:=Lib.hid hx
    have hbx:=HB.out x (List.mem_of_getElem? hx)
    obtain⟨ux,px,ax⟩:=x
    simp only at a0 a1 a2 hbx ra
    have RA:=Lib.hid ra
    clear hc hx ra
    go_wp2_with fail
    refine(szOrder_any ux ax _ px _ _ r0 r1 RA.out hbx).mono ?_
    rintro e1 w1 ⟨r2,rfl,u1,u2,u3,k1⟩
    by_cases hneg:r2<0
    ·go_wp2_with fail
     go_ret
     exact⟨_,rfl,by omega,by omega,fun h=>absurd h (by omega),kr.trans k1⟩
    ·have HE2:Hid (∀ j x,j<k+1→l[j]?=some x→x.p.length≤1048576):=Lib.hid fun j y hj hy=>by
      rcases Nat.lt_or_ge j k with h1 | h1
      ·exact hE.out j y h1 hy
      ·obtain rfl:j=k:=by omega
       rw [HX.out] at hy
       obtain rfl:=Option.some.inj hy
       exact u3 (by omega)
     clear u3
     go_wp2_with fail
     go_roundw
     case rel=>exact⟨k+1,r2,by omega,by go_num,rfl,by omega,u1,HE2,kr.trans k1⟩
     case measure=>simp [intOf];omega
   ·obtain rfl:k=n:=by omega
    go_wp2_with fail
    go_ret
    refine⟨_,rfl,r1,by omega,fun _=>?_,kr⟩
    rw [HP.out]
    refine⟨by omega,fun x hx=>?_⟩
    obtain⟨j,hj,rfl⟩:=List.mem_iff_getElem.1 hx
    exact hE.out j _ (by have:=HN.out;omega) (List.getElem?_eq_getElem hj)
 ·have a1':(left - n)<0:=by omega
  go_enter Tryz.func75,Tryz.ntmps75
  go_wp2_with fail
  go_ret
  exact⟨_,rfl,by omega,by omega,fun h=>absurd h (by omega),Kp.refl _⟩
set_option maxRecDepth 100000 in
set_option maxHeartbeats 2000000 in
theorem eqOrderS_same (A B:Option Addr) (n ca cb:Nat) (l:List Odr) (w:World) (ha:RdO w A n l) (hb:RdO w B n l) (hn:n≤1048576) (hcb:∀ x ∈ l,x.p.length≤1048576) :
  Calls Tryz.prog 82 #[.slice A n ca,.slice B n cb] w fun e w'=>e=.returned (.bool true)∧Kp w w':=by
 have HA:=Lib.hid ha.2
 have HB:=Lib.hid hb.2
 have HN:=Lib.hid ha.1
 have HB2:=Lib.hid hcb
 clear hcb ha hb
 go_enter Tryz.func82,Tryz.ntmps82
 go_wp2_with fail
 go_loopw [5] (fun i wr=>∃ k:Nat,k≤n∧i=.int .i64 k∧Kp w wr) (fun i _=>n - (intOf i).toNat)
 case atStart=>exact⟨0,by omega,rfl,Kp.refl _⟩
 case round =>
  obtain⟨k,hk,rfl,kr⟩:=hrel
  by_cases hlt:k<n
  ·have hlt':(k:Int)<n:=by omega
   obtain⟨ga,oa,rfl,ca'⟩:=HA.out (by omega)
   obtain⟨gb,ob,rfl,cb'⟩:=HB.out (by omega)
   obtain⟨x,hx⟩:∃ x,l[k]?=some x:=⟨l[k]'(by have:=HN.out;omega),List.getElem?_eq_getElem _⟩
   obtain⟨Aa,xca,⟨a0,a1,a2⟩,ra⟩:=(ca' k x hx).keep kr
   obtain⟨Ab,xcb,⟨b0,b1,b2⟩,rb⟩:=(cb' k x hx).keep kr
   have hnc:=HB2.out x (List.mem_of_getElem? hx)
   obtain⟨ux,px,ax⟩:=x
   simp only at a0 a1 a2 b0 b1 b2 ra rb hnc
   have RA:=Lib.hid (ra.keep (Kp.refl wr).drew)
   have RB:=Lib.hid (rb.keep (Kp.refl wr).drew)
   have HNC:=Lib.hid hnc
   generalize px.length=nc at a1 b1 RA RB
   clear ra rb ca' cb' hx hnc
   go_wp2_with fail
   go_region_held3 (fun w'=>w'.cell? ⟨ga,oa+k*3,none⟩=some (.int .i64 ux)∧w'.cell? ⟨ga,oa+k*3+1,none⟩=some (.slice Aa nc xca)∧w'.cell? ⟨ga,oa+k*3+2,none⟩=some (.int .i64 ax)∧w'.cell? ⟨gb,ob+k*3,none⟩=some (.int .i64 ux)∧w'.cell? ⟨gb,ob+k*3+1,none⟩=some (.slice Ab nc xcb)∧w'.cell? ⟨gb,ob+k*3+2,none⟩=some (.int .i64 ax)) (first | assumption | go_keep)
    (first | (go_at_call 24;refine(eqOrder_same ux ax _ _ px _ RA.out RB.out HNC.out).mono ?_;rintro e w1 ⟨rfl,k1⟩;have s1:=keepc6 k1 (by assumption)))
   all_goals
    go_wp2_with fail
    go_roundw
    case rel=>exact⟨k+1,by omega,by go_num,kr.drew.trans k1⟩
    case measure=>simp [intOf];omega
  ·obtain rfl:k=n:=by omega
   go_wp2_with fail
   go_ret
   exact⟨rfl,kr⟩
/-! ### copies -/
theorem infoOdr:(Tryz.prog.info? 53).map (fun i=>(i.zero,i.size,i.bytes))=some (some (ov 0 (.slice none 0 0) 0),3,40):=by kernel_rfl
theorem mkOdrs (n:Nat) (hn:n≤1048576) (w:World) :
  (Instr.makeSlice 65 (.int .i64 (n:Int)) (.int .i64 (n:Int))).run Tryz.prog w=.ok (.slice (some ⟨w.heap.size,0,none⟩) n n) (w.alloc (.cells (madeCells (ov 0 (.slice none 0 0) 0).cells (n*3)) 53)):=by
 obtain⟨i,hi,hz,hs,hb⟩:=info_parts infoOdr
 have hr:=run_make (P:=Tryz.prog) w 65 53 i (ov 0 (.slice none 0 0) 0) Tryz.underlying65 hi hz .i64 .i64 (n:Int) (n:Int) (by omega) (by omega) (by rw [hb];omega) (by omega)
 rw [hs,Int.toNat_natCast] at hr
 exact hr
/-- The cells of a copied order, at a place of a row's list. -/
def OdrIn (ys:List Value) (j:Nat) (x:Odr) (c:Option Addr × Nat):Prop :=
 ys[j*3]?=some (.int .i64 x.u)∧ys[j*3+1]?=some (.slice c.1 x.p.length c.2)∧ys[j*3+2]?=some (.int .i64 x.a)
def set3 (ys:List Value) (k:Nat) (a b c:Value):List Value:=((ys.set (k*3) a).set (k*3+1) b).set (k*3+2) c
theorem set3_other {ys:List Value} {k j:Nat} {a b c:Value} (h:∀ i,i<3→k*3+i ≠ j):(set3 ys k a b c)[j]?=ys[j]?:=by
 unfold set3
 have h0:=h 0 (by omega);have h1:=h 1 (by omega);have h2:=h 2 (by omega)
 rw [List.getElem?_set_ne h2,List.getElem?_set_ne h1,List.getElem?_set_ne (by omega)]
theorem odrIn_new {ys:List Value} {k n:Nat} {x:Odr} {c:Option Addr × Nat} (hl:ys.length=n*3) (hk:k<n):OdrIn (set3 ys k (.int .i64 x.u) (.slice c.1 x.p.length c.2) (.int .i64 x.a)) k x c:=by
 unfold OdrIn set3
 refine⟨?_,?_,?_⟩
 ·rw [List.getElem?_set_ne (by omega),List.getElem?_set_ne (by omega),List.getElem?_set_self (by omega)]
 ·rw [List.getElem?_set_ne (by omega),List.getElem?_set_self (by simp only [List.length_set];omega)]
 ·rw [List.getElem?_set_self (by simp only [List.length_set];omega)]
theorem odrIn_old {ys:List Value} {k j:Nat} {a b c':Value} {x:Odr} {c:Option Addr × Nat} (h:OdrIn ys j x c) (hj:j<k):OdrIn (set3 ys k a b c') j x c:=by
 obtain⟨h0,h1,h2⟩:=h
 exact⟨(set3_other (by omega)).trans h0,(set3_other (by omega)).trans h1,(set3_other (by omega)).trans h2⟩
/-- Copied orders: a row in block g, each order's path in a block of its own behind it. -/
structure OwnOd (w:World) (g n:Nat) (l:List Odr) (cs:List (Option Addr × Nat)) (ys:List Value):Prop where
 row:w.ownsRow g 53 3 (.slice (some ⟨g,0,none⟩) n n) n ys
 here:∀ (j:Nat) (x:Odr) (c:Option Addr × Nat),l[j]?=some x→cs[j]?=some c→OdrIn ys j x c
 each:∀ (j:Nat) (x:Odr) (c:Option Addr × Nat),l[j]?=some x→cs[j]?=some c→OwnI w (g+1) (.slice c.1 x.p.length c.2) x.p
 apart:∀ (i j:Nat) (c d:Option Addr × Nat),i<j→cs[i]?=some c→cs[j]?=some d→∀ (x y k:Nat),(Value.slice c.1 x c.2).ownBlock=some k→(Value.slice d.1 y d.2).ownBlock ≠ some k
theorem OwnOd.keep {w w':World} {g n:Nat} {l:List Odr} {cs:List (Option Addr × Nat)} {ys:List Value} (h:OwnOd w g n l cs ys) (k:Kp w w'):OwnOd w' g n l cs ys :=
 ⟨ownsRow_keep h.row k,h.here,fun j x c hx hc=>(h.each j x c hx hc).keep k,h.apart⟩
theorem OwnOd.setFar {w:World} {g n:Nat} {l:List Odr} {cs:List (Option Addr × Nat)} {ys:List Value} (h:OwnOd w g n l cs ys) {b j:Nat} (hb:b<g) (u:Value):OwnOd (w.setCell ⟨b,j,none⟩ u) g n l cs ys :=
 ⟨World.ownsRow.kept h.row (grown_set w b j u) (.inr fun e=>by have:g=b:=Option.some.inj e;omega),h.here,fun i x c hx hc=>(h.each i x c hx hc).far ((h.each i x c hx hc).not (by omega)) u,h.apart⟩
theorem OwnOd.rd {w:World} {g n:Nat} {l:List Odr} {cs:List (Option Addr × Nat)} {ys:List Value} (h:OwnOd w g n l cs ys) (hl:l.length=n) (hc:cs.length=n):RdO w (some ⟨g,0,none⟩) n l :=
 ⟨hl,fun _=>⟨g,0,rfl,fun i x hx=>by
  have hi:=lt_of_at hx
  have hcs:cs[i]?=some (cs[i]'(by omega)):=List.getElem?_eq_getElem _
  obtain⟨h0,h1,h2⟩:=h.here i x _ hx hcs
  have hlen:ys.length=n*3:=h.row.1
  have e:=(h.each i x _ hx hcs).rd
  rw [Nat.zero_add]
  refine⟨_,_,⟨?_,?_,?_⟩,e⟩
  ·exact(h.row.cellAt (i*3) (by omega)).trans h0
  ·exact(h.row.cellAt (i*3+1) (by omega)).trans h1
  ·exact(h.row.cellAt (i*3+2) (by omega)).trans h2⟩⟩
theorem stored3 {w:World} {base g n:Nat} {e:TypeId} {ys:List Value} {cap:Nat} (h:w.ownsRow base e 3 (.slice (some ⟨g,0,none⟩) n cap) n ys) (k:Nat) (a b c:Value) :
  ((((w.setCell ⟨g,k*3,none⟩ a).setCell ⟨g,k*3+1,none⟩ b).setCell ⟨g,k*3+2,none⟩ c)).ownsRow base e 3 (.slice (some ⟨g,0,none⟩) n cap) n (set3 ys k a b c) :=
 ((h.stored (k*3) a).1.stored (k*3+1) b).1.stored (k*3+2) c |>.1
theorem OwnOd.step {w w1:World} {g n k:Nat} {l:List Odr} {cs:List (Option Addr × Nat)} {ys:List Value} {x:Odr} {A:Option Addr} {c:Nat} (h:OwnOd w g n l cs ys) (hcs:cs.length=k) (hx:l[k]?=some x) (hk:k<n) (k1:Kp w w1) (hg:g<w.heap.size)
  (ho:OwnI w1 (w.heap.size+1) (.slice A x.p.length c) x.p) :
  OwnOd (((w1.setCell ⟨g,k*3,none⟩ (.int .i64 x.u)).setCell ⟨g,k*3+1,none⟩ (.slice A x.p.length c)).setCell ⟨g,k*3+2,none⟩ (.int .i64 x.a)) g n l (cs++[(A,c)])
   (set3 ys k (.int .i64 x.u) (.slice A x.p.length c) (.int .i64 x.a)):=by
 have hlen:ys.length=n*3:=h.row.1
 refine⟨stored3 (ownsRow_keep h.row k1) k _ _ _,?_,?_,?_⟩
 ·intro j y d hy hd
  rcases Nat.lt_or_ge j k with hj | hj
  ·rw [List.getElem?_append_left (by omega)] at hd
   exact odrIn_old (h.here j y d hy hd) hj
  ·have hj2:j=k:=by have:=lt_of_at hd;simp at this;omega
   subst hj2
   rw [List.getElem?_append_right (by omega),hcs,Nat.sub_self] at hd
   obtain rfl:(A,c)=d:=by simpa using hd
   rw [hx] at hy
   obtain rfl:=Option.some.inj hy
   exact odrIn_new (c:=(A,c)) hlen hk
 ·intro j y d hy hd
  have far:∀ {v l'} ,OwnI w1 (g+1) v l'→OwnI (((w1.setCell ⟨g,k*3,none⟩ (.int .i64 x.u)).setCell ⟨g,k*3+1,none⟩ (.slice A x.p.length c)).setCell ⟨g,k*3+2,none⟩ (.int .i64 x.a)) (g+1) v l':=fun {v l'} o=>by
   have n1:=o.not (g:=g) (by omega)
   exact((o.far n1 _).far n1 _).far n1 _
  rcases Nat.lt_or_ge j k with hj | hj
  ·rw [List.getElem?_append_left (by omega)] at hd
   exact far ((h.each j y d hy hd).keep k1)
  ·have hj2:j=k:=by have:=lt_of_at hd;simp at this;omega
   subst hj2
   rw [List.getElem?_append_right (by omega),hcs,Nat.sub_self] at hd
   obtain rfl:(A,c)=d:=by simpa using hd
   rw [hx] at hy
   obtain rfl:=Option.some.inj hy
   exact far (ho.base (by omega))
 ·intro i j c1 d1 hij hc hd x1 y1 b hb hb'
  have hjl:j<k+1:=by have:=lt_of_at hd;simp at this;omega
  rw [List.getElem?_append_left (by omega)] at hc
  rcases Nat.lt_or_ge j k with hj | hj
  ·rw [List.getElem?_append_left (by omega)] at hd
   exact h.apart i j c1 d1 hij hc hd x1 y1 b hb hb'
  ·have hj2:j=k:=by omega
   subst hj2
   rw [List.getElem?_append_right (by omega),hcs,Nat.sub_self] at hd
   obtain rfl:(A,c)=d1:=by simpa using hd
   have hxi:l[i]?=some (l[i]'(by have:=lt_of_at hx;omega)):=List.getElem?_eq_getElem _
   have h1:=(World.ownsRow.lt (h.each i _ c1 hxi hc) b ((ownBlock_len _ _ _ _).trans hb)).2
   have h2:=(World.ownsRow.lt ho b ((ownBlock_len _ _ _ _).trans hb')).1
   omega
set_option maxRecDepth 100000 in
set_option maxHeartbeats 1000000 in
theorem toOrderS_any (A:Option Addr) (n c:Nat) (l:List Odr) (w:World) (h:RdO w A n l) (hn:n≤1048576) (hcb:∀ x ∈ l,x.p.length≤1048576) :
  Calls Tryz.prog 78 #[.slice A n c] w fun e w'=>∃ (cs:List (Option Addr × Nat)) (ys:List Value),e=.returned (.slice (some ⟨w.heap.size,0,none⟩) n n)∧cs.length=n∧OwnOd w' w.heap.size n l cs ys∧Kp w w':=by
 have HN:=Lib.hid h.1
 have HA:=Lib.hid h.2
 have HB:=Lib.hid hcb
 have hmk:=fun w=>mkOdrs n hn w
 have own0:(w.alloc (.cells (madeCells (ov 0 (.slice none 0 0) 0).cells (n*3)) 53)).ownsRow w.heap.size 53 3 (.slice (some ⟨w.heap.size,0,none⟩) n n) n (madeCells (ov 0 (.slice none 0 0) 0).cells (n*3)).toList :=
  World.ownsRow_lit w _ n (Nat.le_refl _) (by simp only [maxLen];omega) (by rw [size_madeCells])
 clear h hcb
 go_enter Tryz.func78,Tryz.ntmps78
 go_wp2_with fail
 go_loopw [4] (fun i wr=>∃ (k:Nat) (cs:List (Option Addr × Nat)) (ys:List Value),k≤n∧i=.int .i64 k∧Hid (cs.length=k)∧Hid (OwnOd wr w.heap.size n l cs ys)∧Kp w wr∧w.heap.size<wr.heap.size) (fun i _=>n - (intOf i).toNat)
 case atStart=>exact⟨0,[],_,by omega,rfl,Lib.hid rfl,Lib.hid ⟨own0,fun j x c hx hc=>by simp at hc,fun j x c hx hc=>by simp at hc,fun i j c d _ hc=>by simp at hc⟩,(Kp.refl _).alloc _,by simp⟩
 case round =>
  clear own0 hmk
  obtain⟨k,cs,ys,hk,rfl,HC,HO,kr,hz⟩:=hrel
  by_cases hlt:k<n
  ·have hlt':(k:Int)<n:=by omega
   obtain⟨g,off,rfl,hc⟩:=HA.out (by omega)
   obtain⟨x,hx⟩:∃ x,l[k]?=some x:=⟨l[k]'(by have:=HN.out;omega),List.getElem?_eq_getElem _⟩
   obtain⟨Ac,cc,⟨a0,a1,a2⟩,ra⟩:=(hc k x hx).keep kr
   have hnc:=HB.out x (List.mem_of_getElem? hx)
   have HX:=Lib.hid hx
   obtain⟨ux,px,ax⟩:=x
   simp only at a0 a1 a2 ra hnc
   have HE:=Lib.hid (fun (w1:World) (A:Option Addr) (c:Nat) (k1:Kp wr w1) (ho:OwnI w1 (wr.heap.size+1) (.slice A px.length c) px)=>OwnOd.step (x:=⟨ux,px,ax⟩) HO.out HC.out HX.out hlt k1 hz ho)
   simp only at HE
   have RA:=Lib.hid ra
   have HNC:=Lib.hid hnc
   have HR:=Lib.hid HO.out.row
   clear hc hx ra hnc
   go_wp2_with fail
   refine(toOrder_any ux ax _ px _ RA.out HNC.out).mono ?_
   rintro e1 w1 ⟨A1,c1,rfl,o1,k1⟩
   have HR1:=ownsRow_keep HR.out k1
   obtain⟨⟨u0,b0⟩,f0⟩:=liveN HR1 (j:=k*3) (by omega)
   obtain⟨⟨u1,b1⟩,f1⟩:=liveN HR1 (j:=k*3+1) (by omega)
   obtain⟨⟨u2,b2⟩,f2⟩:=liveN HR1 (j:=k*3+2) (by omega)
   have HT:=Lib.hid (HE.out w1 A1 c1 k1 o1)
   have K1:Kp w w1:=kr.trans k1
   have hz1:w.heap.size<w1.heap.size:=by have:=k1.size;omega
   have HC2:Hid ((cs++[(A1,c1)]).length=k+1):=Lib.hid (by have:=HC.out;simp;omega)
   clear HR1 HE o1 k1 a0 a1 a2 RA HO HR
   go_wp2_with fail
   go_roundw
   case rel=>exact⟨k+1,_,_,by omega,by go_num,HC2,HT,((K1.setCell (by simp) _).setCell (by simp) _).setCell (by simp) _,by simpa using hz1⟩
   case measure=>simp [intOf];omega
  ·obtain rfl:k=n:=by omega
   go_wp2_with fail
   go_ret
   exact⟨cs,ys,rfl,HC.out,HO.out,kr⟩
/-! ### sheets -/
/-- A sheet's orders: the slice, and the list that it reads as. -/
def SheAt (w:World) (v:Value) (l:List Odr):Prop:=∃ A c,v=.slice A l.length c∧RdO w A l.length l
theorem SheAt.keep {w w':World} {v:Value} {l:List Odr} (h:SheAt w v l) (k:Kp w w'):SheAt w' v l:=by
 obtain⟨A,c,e,h⟩:=h
 exact⟨A,c,e,h.keep k⟩
def smO (l:List Odr):Prop:=l.length≤1048576∧∀ x ∈ l,x.p.length≤1048576
abbrev hv (s:Int) (v:Value):Value:=.agg #[.int .i64 s,v]
theorem szSheet_any (s:Int) (v:Value) (l:List Odr) (left:Int) (w:World) (hp:SheAt w v l) (h0:0≤left) (h1:left≤1048576) (hn:l.length≤9223372036854775807) (hb:∀ x ∈ l,x.p.length≤9223372036854775807) :
  Calls Tryz.prog 25 #[hv s v,.int .i64 left] w (SzPost (smO l) w):=by
 obtain⟨A,c,rfl,hr⟩:=hp
 have HR:=Lib.hid hr
 have HB:=Lib.hid hb
 have C:=Lib.hid (szOrderS_any A l.length c l left _ (HR.out.keep ((Kp.refl w).alloc (.cells #[.int .i64 s,.slice A l.length c] 61))) h0 h1 hn hb)
 unfold smO
 generalize hP:(l.length≤1048576∧∀ x ∈ l,x.p.length≤1048576)=P at C ⊢
 clear hP
 generalize l.length=n at *
 clear hr hb
 go_enter Tryz.func25,Tryz.ntmps25
 go_wp2_with fail
 refine C.out.mono ?_
 rintro e1 w1 ⟨r,rfl,u1,u2,u3,k1⟩
 by_cases hneg:r<0
 ·go_wp2_with fail
  go_ret
  exact⟨_,rfl,by omega,by omega,fun h=>absurd h (by omega),((Kp.refl _).alloc _).trans k1⟩
 ·have U3:=Lib.hid (u3 (by omega))
  clear u3
  go_wp2_with fail
  go_ret
  exact⟨_,rfl,u1,u2,fun _=>U3.out,((Kp.refl _).alloc _).trans k1⟩
set_option maxRecDepth 100000 in
set_option maxHeartbeats 1000000 in
theorem toSheet_any (s:Int) (v:Value) (l:List Odr) (w:World) (hp:SheAt w v l) (hs:smO l) :
  Calls Tryz.prog 27 #[hv s v] w fun e w'=>∃ (g:Nat) (cs:List (Option Addr × Nat)) (ys:List Value),e=.returned (hv s (.slice (some ⟨g,0,none⟩) l.length l.length))∧cs.length=l.length∧OwnOd w' g l.length l cs ys∧w.heap.size<g∧g<w'.heap.size∧Kp w w':=by
 obtain⟨A,c,rfl,hr⟩:=hp
 have C:=Lib.hid (fun (w:World) (h:RdO w A l.length l)=>toOrderS_any A l.length c l w h hs.1 hs.2)
 have HR:=Lib.hid hr
 clear hr hs
 obtain⟨n,hn⟩:∃ n,n=l.length:=⟨_,rfl⟩
 rw [← hn] at C HR ⊢
 clear hn
 go_enter Tryz.func27,Tryz.ntmps27
 go_wp2_with fail
 have k0:Kp w (((w.alloc (.cells #[.int .i64 s,.slice A n c] 61)).alloc (.cells #[.int .i64 0,.slice none 0 0] 67)).alloc (.cells #[.int .i64 s,.slice none 0 0] 67)):=(((Kp.refl w).alloc _).alloc _).alloc _
 refine(C.out _ (HR.out.keep k0)).mono ?_
 rintro e1 w1 ⟨cs,ys,rfl,hcl,o1,k1⟩
 obtain⟨l0a,l0b⟩:=k1.liv (p:=⟨w.heap.size+1,0,none⟩) (v:=.int .i64 0) ⟨by simp [go_sem],by simp [go_sem]⟩
 obtain⟨l1a,l1b⟩:=k1.liv (p:=⟨w.heap.size+1,1,none⟩) (v:=.slice none 0 0) ⟨by simp [go_sem],by simp [go_sem]⟩
 obtain⟨m0a,m0b⟩:=k1.liv (p:=⟨w.heap.size+1+1,0,none⟩) (v:=.int .i64 s) ⟨by simp [go_sem],by simp [go_sem]⟩
 obtain⟨m1a,m1b⟩:=k1.liv (p:=⟨w.heap.size+1+1,1,none⟩) (v:=.slice none 0 0) ⟨by simp [go_sem],by simp [go_sem]⟩
 have K1:Kp w w1:=k0.trans k1
 have hz1:=(World.ownsRow.lt o1.row _ rfl).2
 have O1:=Lib.hid o1
 have HCL:=Lib.hid hcl
 simp only [World.size_alloc] at hz1 O1 ⊢
 generalize hg:w.heap.size+1+1+1=g at hz1 O1 ⊢
 clear k0 k1 o1 hcl
 go_wp2_with fail
 refine bodyPost_ret (v:=hv s (.slice (some ⟨g,0,none⟩) n n)) (by simp [results,Tryz.results27,go_sem, *]) rfl ⟨g,cs,ys,rfl,HCL.out,?_,by omega,by simpa using hz1,?_⟩
 ·exact((O1.out.setFar (by omega) _).setFar (by omega) _).setFar (by omega) _
 ·exact((K1.setCell (by simp <;> omega) _).setCell (by simp <;> omega) _).setCell (by simp <;> omega) _
theorem eqSheet_same (s:Int) (v v':Value) (l:List Odr) (w:World) (ha:SheAt w v l) (hb:SheAt w v' l) (hs:smO l) :
  Calls Tryz.prog 29 #[hv s v,hv s v'] w fun e w'=>e=.returned (.bool true)∧Kp w w':=by
 obtain⟨A,ca,rfl,ha⟩:=ha
 obtain⟨B,cb,rfl,hb⟩:=hb
 have KA:Kp w ((w.alloc (.cells #[.int .i64 s,.slice A l.length ca] 67)).alloc (.cells #[.int .i64 s,.slice B l.length cb] 67)):=((Kp.refl w).alloc _).alloc _
 have C:=Lib.hid (eqOrderS_same A B l.length ca cb l _ (ha.keep KA) (hb.keep KA) hs.1 hs.2)
 have e2:(s != s)=false:=by simp
 generalize l.length=n at *
 clear ha hb hs
 go_enter Tryz.func29,Tryz.ntmps29
 go_wp2_with fail
 refine C.out.mono ?_
 rintro x1 w1 ⟨rfl,k1⟩
 go_wp2_with fail
 go_ret
 exact⟨rfl,KA.trans k1⟩
theorem OwnOd.she {w:World} {g:Nat} {l:List Odr} {cs:List (Option Addr × Nat)} {ys:List Value} (h:OwnOd w g l.length l cs ys) (hc:cs.length=l.length):SheAt w (.slice (some ⟨g,0,none⟩) l.length l.length) l:=⟨_,_,rfl,h.rd rfl hc⟩
theorem cellsSht:Tryz.prog.cellsOf 61=2:=by kernel_rfl
set_option maxRecDepth 100000 in
theorem rdO_of_trod {H:Type} {enc:TypeId × Value→H} {W:World} {v:Value} {n:Nat} {y:DataW H × List MemPlace}
  (hf:DataW.trod enc Tryz.prog W 0 (fun _=>true) true n 59 [v]=some y):∃ l:List Odr,SheAt W v l∧l.length≤9223372036854775807∧∀ x ∈ l,x.p.length≤9223372036854775807:=by
 obtain⟨A,n,c,l,rfl,hl,hm,hr⟩:=rd_structs (α:=Odr) (fun g o x=>OdrAt W g o x∧x.p.length≤9223372036854775807) cellsOdr Tryz.underlying59 hf (fun a fu cs x hcl hat hx=>by
  obtain⟨k,hk⟩:=fields_of_trod Tryz.underlying35 (by kernel_rfl) rfl hcl hx
  obtain⟨c0,y0,q0,h0⟩:=hk 0 _ rfl
  obtain⟨c1,y1,q1,h1⟩:=hk 1 _ rfl
  obtain⟨c2,y2,q2,h2⟩:=hk 2 _ rfl
  obtain⟨z0,e0,_,w0⟩:=DataW.trod_int Tryz.underlying3 h0
  obtain⟨lc,r1,r2,r3⟩:=rdB_of_trod h1
  obtain⟨z2,e2,_,w2⟩:=DataW.trod_int Tryz.underlying3 h2
  simp only [List.cons.injEq,and_true] at e0 e2
  subst e0 e2
  have g0:=(hat 0 (by omega)).trans q0
  have g1:=(hat 1 (by omega)).trans q1
  have g2:=(hat 2 (by omega)).trans q2
  obtain⟨b,off,spot⟩:=a
  have hspot:spot=none:=by
   have:=World.cell?_spot g0
   simpa [Addr.add] using this
  subst hspot
  rw [add_none'] at g0 g1 g2
  obtain⟨A1,c1',rfl⟩:=r1.shape
  exact⟨rfl,⟨z0,lc,z2⟩,⟨A1,c1',⟨g0,g1,g2⟩,r1⟩,r2⟩)
 have mem:∀ x ∈ l,x.p.length≤9223372036854775807:=fun x hx=>by
  obtain⟨i,hi,rfl⟩:=List.mem_iff_getElem.1 hx
  obtain⟨g,off,rfl,hc⟩:=hr (by omega)
  exact(hc i _ (List.getElem?_eq_getElem hi)).2
 unfold maxLen at hm
 subst hl
 refine⟨l,⟨A,c,rfl,rfl,fun h0=>?_⟩,by omega,mem⟩
 obtain⟨g,off,e,hc⟩:=hr h0
 exact⟨g,off,e,fun i x hx=>(hc i x hx).1⟩
set_option maxRecDepth 100000 in
/-- An argument that is a sheet. -/
theorem open_sheet {H:Type} {enc:TypeId × Value→H} {W:World} {base:Nat} {v:Value} {d:DataW H} {p:List MemPlace}
  (hv':Value.okWide Tryz.prog W .any base 61 v) (h:DataW.Trod enc Tryz.prog W 0 (fun _=>true) true 61 v d p) :
  ∃ (s:Int) (x:Value) (l:List Odr),v=hv s x∧SheAt W x l∧l.length≤9223372036854775807∧(∀ x ∈ l,x.p.length≤9223372036854775807)∧isI64 s:=by
 obtain⟨cs,n,rfl,hl,hf⟩:=open_fields Tryz.underlying61 (by kernel_rfl) cellsSht rfl hv' h
 obtain⟨c0,y0,q0,h0⟩:=hf 0 _ rfl
 obtain⟨c1,y1,q1,h1⟩:=hf 1 _ rfl
 match cs,hl with
 | [x0,x1],_ =>
  simp only [List.getElem?_cons_zero,List.getElem?_cons_succ,Option.some.injEq] at q0 q1
  subst q0 q1
  obtain⟨z0,e0,rfl,w0⟩:=DataW.trod_int Tryz.underlying3 h0
  obtain⟨lc,r1,r2,r3⟩:=rdO_of_trod h1
  simp only [List.cons.injEq,and_true] at e0
  subst e0
  exact⟨_,_,lc,rfl,r1,r2,r3,bounds_i64 w0⟩
end Go.Proofs.YtacgknllagdkoaaGreatDoor
