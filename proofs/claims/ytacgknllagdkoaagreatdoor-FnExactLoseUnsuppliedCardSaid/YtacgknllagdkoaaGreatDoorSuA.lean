/-
 Rows of lists that are filled one by one beside a growing queue, in memory: what stays, what is set, what is appended. An append to a slice without spare capacity is made anew. No function of the program is looked into.
-/
import Derived.Test.YtacgknllagdkoaaGreatDoorSuM
import Derived.Test.YtacgknllagdkoaaGreatDoorSuJ
import Derived.Test.YtacgknllagdkoaaGreatDoorQa
import Derived.Test.YtacgknllagdkoaaGreatDoorQe
import Derived.Test.YtacgknllagdkoaaGreatDoorQl
import Derived.Test.YtacgknllagdkoaaGreatDoorQa
namespace Go.Proofs.YtacgknllagdkoaaGreatDoor
open Go.RowKit
theorem infoIntSw:(Tryz.prog.info? 26).map (fun i=>(i.zero,i.size,i.bytes))=some (some (.slice none 0 0),1,24):=by kernel_rfl
theorem mkWays (n:Nat) (hn:n≤1048576) (w:World) :
  (Instr.makeSlice 213 (.int .i64 (n:Int)) (.int .i64 (n:Int))).run Tryz.prog w=.ok (.slice (some ⟨w.heap.size,0,none⟩) n n) (w.alloc (.cells (madeCells #[.slice none 0 0] n) 26)):=by
 obtain⟨i,hi,hz,hs,hb⟩:=info_parts infoIntSw
 have hr:=run_make (P:=Tryz.prog) w 213 26 i (.slice none 0 0) Tryz.underlying213 hi hz .i64 .i64 (n:Int) (n:Int) (by omega) (Int.le_refl _) (by rw [hb];omega) (by omega)
 rw [hs,Int.toNat_natCast,Nat.mul_one] at hr
 exact hr
/-- An append to a slice that has no spare capacity. -/
theorem append_full (w:World) (A:Option Addr) (n cw:Nat) (l:List Int) (z:Int) (ty:TypeId) (h:RdI w (.slice A n cw) l) (hl:l.length=n) (h0:n=0→A=none) (hn:n≤1000) (ad:Addr) (hc:∀ j u,[Value.int .i64 z][j]?=some u→w.cell? (ad.add j)=some u) :
  ∃ v' w',(Builtin.append_ #[26,26] ty #[.slice A n n,.slice (some ad) 1 1]).run Tryz.prog w=.ok v' w'∧OwnI w' w.heap.size v' (l++[z])∧w.grownBy w' none:=by
 obtain⟨j0,hj0,hz0,hs0,hb0⟩:=info_parts infoInt
 by_cases hn0:n=0
 ·have hA:=h0 hn0
  subst hn0 hA
  have hl0:l=[]:=List.length_eq_zero_iff.1 hl
  subst hl0
  obtain⟨v',w',hr,ho,hg,_⟩:=run_append_own (P:=Tryz.prog) (w:=w) w.heap.size 26 ty 3 j0 (.int .i64 0) 1 8 Tryz.underlying26 hj0 hz0 hs0 hb0 rfl (by decide) (.slice none 0 0) 0 [] (World.ownsRow_nil w _ _ 1) ad 1 1 [.int .i64 z] rfl hc (by simp [Value.oneCell']) (by simp only [maxLen];omega) (by omega) (Nat.le_refl _)
  exact⟨v',w',hr,ho,hg⟩
 ·obtain⟨A',c',e,hA⟩:=h
  obtain⟨rfl,_,rfl⟩:A=A'∧n=l.length∧cw=c':=by simpa only [Value.slice.injEq] using e
  obtain⟨g,off,rfl,hcell⟩:=hA (by omega)
  have hr:=run_append_grow (P:=Tryz.prog) w 26 ty 3 j0 (.int .i64 0) Tryz.underlying26 hj0 hz0 ⟨g,off,none⟩ n n (cellsI l) (by rw [hs0];simp [cellsI,hl]) (fun j u hj=>by
   have hjl:j<l.length:=by
    have:=(List.getElem?_eq_some_iff.1 hj).1
    simpa [cellsI] using this
   have hx:=List.getElem?_eq_getElem hjl
   have hu:u=.int .i64 l[j]:=by simpa [cellsI,hx] using hj.symm
   rw [hu,Addr.add_lit]
   exact hcell j _ hx) ad 1 1 [.int .i64 z] (by rw [hs0];rfl) hc (by omega) (by omega) (growslice_fits (by omega) (by rw [hb0];omega))
  have hge:=grownCap_ge w (n+1) n 3
  have hcm:grownCap w (n+1) n 3≤maxLen:=grownCap_le_maxLen w (n+1) n 3 (by simp only [maxLen];omega)
  have hlen:(cellsI (l++[z])).length=(l++[z]).length*1:=by simp [cellsI]
  have hl1:(l++[z]).length=n+1:=by simp [hl]
  have hcz:cellsI (l++[z])=cellsI l++[.int .i64 z]:=by simp [cellsI]
  refine⟨_,_,hr,⟨hlen,.inr ⟨w.heap.size,_,_,by rw [hl1],Nat.le_refl _,heap_alloc_new w.drew _,by rw [hl1];exact hge,hcm,?_,?_⟩⟩,⟨rfl,rfl,rfl,by simp,fun k hk _=>heap_alloc_old w.drew _ hk⟩⟩
  ·simp only [Array.size_append,List.size_toArray,size_zeroCells,Value.cells,cellsI,List.length_map,List.length_cons,List.length_nil,hl]
   simp
   omega
  ·rw [hcz]
   simp only [Array.toList_append,List.append_assoc]
   rw [← List.append_assoc]
   have h9:(l++[z]).length*1=(cellsI l++[Value.int .i64 z]).length:=by simp [cellsI]
   rw [h9]
   exact List.take_left
theorem step_full {o:Oper} {a:Act} {w:World} {K:Act→World→Prop} {Q:Exit→Act→World→Prop} (s x:Operand)
  (ho:o.op=.call { callee:=.builtin .append,args:=#[s,x],argTypes:=#[26,26] })
  (A:Option Addr) (n cw:Nat) (l:List Int) (z:Int) (hs:a.eval s=.slice A n n) (h:RdI w (.slice A n cw) l) (hl:l.length=n) (h0:n=0→A=none) (hn:n≤1000) (ad:Addr) (hx:a.eval x=.slice (some ad) 1 1) (hc:∀ j u,[Value.int .i64 z][j]?=some u→w.cell? (ad.add j)=some u)
  (hK:∀ v' w',OwnI w' w.heap.size v' (l++[z])→w.grownBy w' none→K (a.put o.dst v') w'):Oper.wp Tryz.prog o a w K Q:=by
 obtain⟨v',w',hr,h2,h3⟩:=append_full w A n cw l z o.type h hl h0 hn ad hc
 unfold Oper.wp execOp
 simp only [ho,resolve,invoke,builtin,Sem.run_bind,Sem.run_pure,Result.andThen_ok,List.map_toArray,List.map_cons,List.map_nil,hs,hx,hr]
 exact hK v' w' h2 h3
theorem ownsRow_far {w:World} {base:Nat} {e:TypeId} {size:Nat} {v:Value} {n:Nat} {xs:List Value} (h:w.ownsRow base e size v n xs) {g j:Nat} (hne:v.ownBlock ≠ some g) {u:Value}:(w.setCell ⟨g,j,none⟩ u).ownsRow base e size v n xs:=ownsRow_setCell_other h hne u
/-- What a step of the search leaves as it is. -/
structure OthK (GW br:Nat) (w w':World) (vr vr':Value):Prop where
 os:w'.os=w.os
 tape:w'.tape=w.tape
 output:w'.output=w.output
 size:w.heap.size≤w'.heap.size
 block:∀ g,g<w.heap.size→g ≠ GW→g ≠ br→vr.ownBlock ≠ some g→w'.heap[g]?=w.heap[g]?
 own:vr'.ownBlock=vr.ownBlock∨∃ g,w.heap.size≤g∧vr'.ownBlock=some g
theorem OthK.refl (GW br:Nat) (w:World) (vr:Value):OthK GW br w w vr vr:=⟨rfl,rfl,rfl,Nat.le_refl _,fun _ _ _ _ _=>rfl,.inl rfl⟩
theorem OthK.away {GW br g:Nat} {w w':World} {vr vr':Value} (h:OthK GW br w w' vr vr') (hg:g<w.heap.size) (hv:vr.ownBlock ≠ some g):vr'.ownBlock ≠ some g:=by
 rcases h.own with e | ⟨k,hk,e⟩
 ·rw [e];exact hv
 ·rw [e];intro e2;have:=Option.some.inj e2;omega
theorem OthK.trans {GW br:Nat} {a b c:World} {v0 v1 v2:Value} (h:OthK GW br a b v0 v1) (k:OthK GW br b c v1 v2):OthK GW br a c v0 v2:=by
 refine⟨k.os.trans h.os,k.tape.trans h.tape,k.output.trans h.output,Nat.le_trans h.size k.size,fun g hg h1 h2 h3=>(k.block g (Nat.lt_of_lt_of_le hg h.size) h1 h2 (h.away hg h3)).trans (h.block g hg h1 h2 h3),?_⟩
 rcases k.own with e | ⟨g,hg,e⟩
 ·rw [e];exact h.own
 ·exact .inr ⟨g,Nat.le_trans h.size hg,e⟩
theorem OthK.of {GW br:Nat} {w w':World} {vr:Value} (k:Kp w w'):OthK GW br w w' vr vr:=⟨k.os,k.tape,k.output,k.size,fun g hg _ _ _=>k.block g hg,.inl rfl⟩
theorem OthK.kp {GW br:Nat} {W1 w w':World} {vr vr':Value} (h:OthK GW br w w' vr vr') (k:Kp W1 w) (hG:W1.heap.size≤GW) (hb:W1.heap.size≤br) (hv:∀ g,vr.ownBlock=some g→W1.heap.size≤g):Kp W1 w' :=
 ⟨h.os.trans k.os,h.tape.trans k.tape,h.output.trans k.output,Nat.le_trans k.size h.size,fun g hg=>(h.block g (Nat.lt_of_lt_of_le hg k.size) (by omega) (by omega) (fun e=>by have:=hv g e;omega)).trans (k.block g hg)⟩
theorem OthK.cell {GW br:Nat} {w w':World} {vr vr':Value} (h:OthK GW br w w' vr vr') {p:Addr} {v:Value} (hc:w.cell? p=some v) (h1:p.block ≠ GW) (h2:p.block ≠ br) (h3:vr.ownBlock ≠ some p.block):w'.cell? p=some v :=
 (World.cell?_of_block (w:=w) (h.block p.block (World.block_lt_of_cell? w p hc) h1 h2 h3)).trans hc
theorem RdI.away {w w':World} {v:Value} {l:List Int} (h:RdI w v l) {GW br:Nat} {vr:Value} (hz:w.heap.size≤w'.heap.size) (h1:w.heap.size≤GW) (h2:w.heap.size≤br) (h3:∀ g,g<w.heap.size→vr.ownBlock ≠ some g):∀ g off n c,v=.slice (some ⟨g,off,none⟩) n c→0<n→g<w'.heap.size∧g ≠ GW∧g ≠ br∧vr.ownBlock ≠ some g:=fun g off n c e hn=>by
 obtain⟨A,c',rfl,h⟩:=h
 obtain⟨rfl,rfl,rfl⟩:A=some ⟨g,off,none⟩∧l.length=n∧c'=c:=by simpa only [Value.slice.injEq] using e
 obtain⟨g',off',e1,hc⟩:=h hn
 cases e1
 have hb:=World.block_lt_of_cell? w _ (hc 0 _ (List.getElem?_eq_getElem hn))
 have hb':g<w.heap.size:=hb
 exact⟨by omega,by omega,by omega,h3 g hb'⟩
/-- A slice of integers that lies apart. -/
def AwayI (w:World) (v:Value) (GW br:Nat) (vr:Value):Prop:=∀ g off n c,v=.slice (some ⟨g,off,none⟩) n c→0<n→g<w.heap.size∧g ≠ GW∧g ≠ br∧vr.ownBlock ≠ some g
theorem AwayI.oth {GW br:Nat} {w w':World} {v vr vr':Value} (h:AwayI w v GW br vr) (k:OthK GW br w w' vr vr'):AwayI w' v GW br vr':=fun g off n c e hn=>by
 obtain⟨h1,h2,h3,h4⟩:=h g off n c e hn
 exact⟨Nat.lt_of_lt_of_le h1 k.size,h2,h3,k.away h1 h4⟩
theorem RdI.oth {GW br:Nat} {w w':World} {v vr vr':Value} {l:List Int} (h:RdI w v l) (a:AwayI w v GW br vr) (k:OthK GW br w w' vr vr'):RdI w' v l:=by
 obtain⟨A,c,rfl,h⟩:=h
 refine⟨A,c,rfl,fun h0=>?_⟩
 obtain⟨g,off,rfl,hc⟩:=h h0
 obtain⟨_,h2,h3,h4⟩:=a g off _ c rfl h0
 exact⟨g,off,rfl,fun i x hx=>k.cell (hc i x hx) h2 h3 h4⟩
theorem OwnI.away {w:World} {base:Nat} {v:Value} {l:List Int} (h:OwnI w base v l) {GW br:Nat} {vr:Value} (h1:GW<base) (h2:br<base) (h3:∀ g,v.ownBlock=some g→vr.ownBlock ≠ some g):AwayI w v GW br vr:=fun g off n c e _=>by
 have h0:w.ownsRow base 3 1 v l.length (cellsI l):=h
 rcases h.2 with ⟨hv,_⟩ | ⟨g',cap,cur,hv,_⟩
 ·rw [hv] at e;cases e
 ·rw [hv] at e
  cases e
  obtain⟨a,b⟩:=World.ownsRow.lt h g (by rw [hv];rfl)
  exact⟨b,by omega,by omega,h3 g (by rw [hv];rfl)⟩
/-- The search's memory: the box of the ways' slice, the box of the queue, the rows. -/
structure FwAt (w:World) (GW bw br base N:Nat) (L:Nat→List Nat) (ks:List Nat) (vr:Value):Prop where
 cw:w.cell? ⟨bw,0,none⟩=some (.slice (some ⟨GW,0,none⟩) N N)
 cr:w.cell? ⟨br,0,none⟩=some vr
 fr:w.frozen? ⟨br,0,none⟩=false
 row:∃ vs,w.ownsRow GW 26 1 (.slice (some ⟨GW,0,none⟩) N N) N vs∧∀ k,k<N→∃ x,vs[k]?=some x∧OwnI w base x (ints (L k))∧∀ g,x.ownBlock=some g→vr.ownBlock ≠ some g
 que:OwnI w base vr (ints ks)
 ne:bw ≠ GW∧br ≠ GW∧br ≠ bw
 lt:GW<base∧bw<base∧br<base
 sz:base≤w.heap.size
theorem FwAt.keep {w w':World} {GW bw br base N:Nat} {L:Nat→List Nat} {ks:List Nat} {vr:Value} (h:FwAt w GW bw br base N L ks vr) (k:Kp w w'):FwAt w' GW bw br base N L ks vr:=by
 obtain⟨vs,h1,h2⟩:=h.row
 exact⟨k.cell h.cw,k.cell h.cr,(k.liv ⟨h.cr,h.fr⟩).2,⟨vs,ownsRow_keep h1 k,fun j hj=>by
  obtain⟨x,a,b,c⟩:=h2 j hj
  exact⟨x,a,b.keep k,c⟩⟩,h.que.keep k,h.ne,h.lt,Nat.le_trans h.sz k.size⟩
theorem FwAt.cell {w:World} {GW bw br base N:Nat} {L:Nat→List Nat} {ks:List Nat} {vr:Value} (h:FwAt w GW bw br base N L ks vr) {k:Nat} (hk:k<N) :
  ∃ x,w.cell? ⟨GW,k,none⟩=some x∧OwnI w base x (ints (L k))∧∀ g,x.ownBlock=some g→vr.ownBlock ≠ some g:=by
 obtain⟨vs,h1,h2⟩:=h.row
 obtain⟨x,a,b,c⟩:=h2 k hk
 exact⟨x,(World.ownsRow.cellAt h1 k (by omega)).trans a,b,c⟩
/-- A way is set. -/
theorem FwAt.set {w W2:World} {GW bw br base N:Nat} {L:Nat→List Nat} {ks:List Nat} {vr v':Value} (h:FwAt w GW bw br base N L ks vr) {k:Nat} (hk:k<N) (kp:Kp w W2) {l:List Nat} (ho:OwnI W2 w.heap.size v' (ints l)) :
  (∃ u,W2.cell? ⟨GW,k,none⟩=some u)∧W2.frozen? ⟨GW,k,none⟩=false∧FwAt (W2.setCell ⟨GW,k,none⟩ v') GW bw br base N (fun j=>if j=k then l else L j) ks vr∧OthK GW br w (W2.setCell ⟨GW,k,none⟩ v') vr vr:=by
 have h9:=h.keep kp
 have hsz:=h.sz
 obtain⟨l1,l2,l3⟩:=h.lt
 obtain⟨n1,n2,n3⟩:=h.ne
 obtain⟨vs,h1,h2⟩:=h9.row
 have hlen:vs.length=N*1:=h1.1
 have far:∀ p:Addr,p.block ≠ GW→(W2.setCell ⟨GW,k,none⟩ v').cell? p=W2.cell? p:=fun p hp=>World.cell?_setCell_other _ _ _ _ (fun e=>hp (by rw [← e]))
 have fry:∀ p:Addr,p.block ≠ GW→(W2.setCell ⟨GW,k,none⟩ v').frozen? p=W2.frozen? p:=fun p hp=>by
  have:(W2.setCell ⟨GW,k,none⟩ v').heap[p.block]?=W2.heap[p.block]?:=Below.heap_setCell _ _ _ _ hp
  exact World.frozen?_of_block (w:=W2) this
 have vlt:∀ g,vr.ownBlock=some g→base≤g∧g<w.heap.size:=fun g e=>World.ownsRow.lt h.que g e
 have olt:∀ g,v'.ownBlock=some g→w.heap.size≤g:=fun g e=>(World.ownsRow.lt ho g e).1
 have keepI:∀ {b v l},OwnI W2 b v l→(∀ g,v.ownBlock=some g→g ≠ GW)→OwnI (W2.setCell ⟨GW,k,none⟩ v') b v l:=fun {b v l} o hg=>o.far (fun e=>hg _ e rfl) _
 refine⟨⟨_,(World.ownsRow.cellAt h1 k (by omega)).trans (List.getElem?_eq_getElem (by omega))⟩,World.ownsRow.frozenAt h1 k,⟨(far _ n1).trans h9.cw,(far _ n2).trans h9.cr,(fry _ n2).trans h9.fr,⟨vs.set k v',(World.ownsRow.stored h1 k v').1,fun j hj=>?_⟩,keepI h9.que (fun g e=>by have:=(vlt g e).1;omega),h.ne,h.lt,by simpa [World.setCell] using h9.sz⟩,?_⟩
 ·by_cases hjk:j=k
  ·subst hjk
   refine⟨v',by rw [List.getElem?_set_self (by omega)],?_,fun g e e2=>by have:=olt g e;have:=(vlt g e2).2;omega⟩
   rw [if_pos rfl]
   exact keepI (ho.base hsz) (fun g e=>by have:=olt g e;omega)
  ·obtain⟨x,a,b,c⟩:=h2 j hj
   refine⟨x,by rw [List.getElem?_set_ne (Ne.symm hjk)];exact a,?_,c⟩
   rw [if_neg hjk]
   exact keepI b (fun g e=>by have:=(World.ownsRow.lt b g e).1;omega)
 ·refine⟨kp.os,kp.tape,kp.output,by have:=kp.size;simpa [World.setCell] using this,fun g hg h1 h2 h3=>?_,.inl rfl⟩
  exact(Below.heap_setCell _ _ _ _ h1).trans (kp.block g hg)
/-- The queue grows. -/
theorem FwAt.push {w w1 w2:World} {GW bw br base N:Nat} {L:Nat→List Nat} {ks:List Nat} {vr v':Value} (h:FwAt w GW bw br base N L ks vr) (k1:Kp w w1) (hg:w1.grownBy w2 vr.ownBlock) {k:Nat} (ho:OwnI w2 base v' (ints (ks++[k]))) (hat:v'.ownBlock=vr.ownBlock∨v'.ownBlock=some w1.heap.size) :
  (∃ u,w2.cell? ⟨br,0,none⟩=some u)∧w2.frozen? ⟨br,0,none⟩=false∧FwAt (w2.setCell ⟨br,0,none⟩ v') GW bw br base N L (ks++[k]) v'∧OthK GW br w (w2.setCell ⟨br,0,none⟩ v') vr v':=by
 have h9:=h.keep k1
 have hsz:=h.sz
 have ksz:=k1.size
 obtain⟨l1,l2,l3⟩:=h.lt
 obtain⟨n1,n2,n3⟩:=h.ne
 obtain⟨vs,h1,h2⟩:=h9.row
 have vlt:∀ g,vr.ownBlock=some g→base≤g∧g<w.heap.size:=fun g e=>World.ownsRow.lt h.que g e
 have nrow:∀ g,g<base→some g ≠ vr.ownBlock:=fun g hg e=>by have:=(vlt g e.symm).1;omega
 have far:∀ p:Addr,p.block ≠ br→(w2.setCell ⟨br,0,none⟩ v').cell? p=w2.cell? p:=fun p hp=>World.cell?_setCell_other _ _ _ _ (fun e=>hp (by rw [← e]))
 have cr2:=hg.cell h9.cr (nrow br l3)
 have hown:v'.ownBlock=vr.ownBlock∨∃ g,w.heap.size≤g∧v'.ownBlock=some g:=by
  rcases hat with e | e
  ·exact .inl e
  ·exact .inr ⟨_,ksz,e⟩
 have away:∀ g,g<w.heap.size→vr.ownBlock ≠ some g→v'.ownBlock ≠ some g:=fun g hg hv=>by
  rcases hown with e | ⟨k,hk,e⟩
  ·rw [e];exact hv
  ·rw [e];intro e2;have:=Option.some.inj e2;omega
 have bge:∀ {b v l},OwnI w2 b v l→base≤b→OwnI (w2.setCell ⟨br,0,none⟩ v') b v l:=fun {b v l} o hb=>o.far (fun e=>by have:=(World.ownsRow.lt o br e).1;omega) _
 have rowk:∀ {b e s v n xs},w1.ownsRow b e s v n xs→(∀ g,v.ownBlock=some g→vr.ownBlock ≠ some g)→w2.ownsRow b e s v n xs:=fun {b e s v n xs} o hv=>World.ownsRow.kept o hg (by
  cases hx:v.ownBlock with
  | none=>exact .inl rfl
  | some g=>exact .inr fun e=>hv g hx e.symm)
 refine⟨⟨_,cr2⟩,grown_frozen hg h9.cr (nrow br l3) h9.fr,⟨?_,?_,?_,⟨vs,?_,fun j hj=>?_⟩,bge ho (Nat.le_refl _),h.ne,h.lt,?_⟩,?_⟩
 ·exact(far _ (Ne.symm n3)).trans (hg.cell h9.cw (nrow bw l2))
 ·simp [go_sem,cr2]
 ·have hf:=grown_frozen hg h9.cr (nrow br l3) h9.fr
  simpa [go_sem] using hf
 ·exact ownsRow_far (rowk h1 (fun g e=>by
   have:g=GW:=(Option.some.inj e).symm
   subst this
   exact fun e2=>nrow g l1 e2.symm)) (fun e=>n2 (Option.some.inj e).symm)
 ·obtain⟨x,a,b,c⟩:=h2 j hj
  refine⟨x,a,bge (rowk b c) (Nat.le_refl _),fun g e=>?_⟩
  have hlt:g<w1.heap.size:=(World.ownsRow.lt b g e).2
  rcases hat with e2 | e2
  ·rw [e2];exact c g e
  ·rw [e2];intro e3;have:=Option.some.inj e3;omega
 ·have:=hg.size
  simp only [World.setCell,Array.size_modify]
  omega
 ·refine⟨hg.os.trans k1.os,hg.tape.trans k1.tape,hg.output.trans k1.output,by have:=hg.size;simp only [World.setCell,Array.size_modify];omega,fun g hg1 h1 h2 h3=>?_,hown⟩
  exact(Below.heap_setCell _ _ _ _ h2).trans ((hg.block g (by omega) (fun e=>h3 e.symm)).trans (k1.block g hg1))
end Go.Proofs.YtacgknllagdkoaaGreatDoor
