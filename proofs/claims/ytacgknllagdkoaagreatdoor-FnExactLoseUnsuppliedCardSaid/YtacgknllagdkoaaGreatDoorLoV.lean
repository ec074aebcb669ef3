/-
 The reference's sLose: a unit of a list of its own loses steps. (Begun: LoseSteps.)
-/
import Derived.Test.YtacgknllagdkoaaGreatDoorPlS
import Derived.StillTailTactics
import Derived.Test.YtacgknllagdkoaaGreatDoorQa
import Derived.Test.YtacgknllagdkoaaGreatDoorQa
namespace Go.Proofs.YtacgknllagdkoaaGreatDoor
open Go.RowKit
/-- A unit behind a loss: without steps it is not on the map. -/
def loU (x:Uni) (n:Int):Uni:=if x.t - n≤0 then ⟨x.s,x.k,-1,0⟩ else ⟨x.s,x.k,x.a,x.t - n⟩
def loL (us:List Uni) (q:Nat) (n:Int):List Uni:=match us[q]? with
 | some x=>us.set q (loU x n)
 | none=>us
theorem loL_at {us:List Uni} {q:Nat} {x:Uni} {n:Int} (h:us[q]?=some x):loL us q n=us.set q (loU x n):=by unfold loL;rw [h]
theorem loL_len (us:List Uni) (q:Nat) (n:Int):(loL us q n).length=us.length:=by
 unfold loL
 split
 ·exact List.length_set
 ·rfl
theorem cellsU_steps:∀ (us:List Uni) (n:Nat) (x:Uni) (i:Int),us[n]?=some x→(cellsU us).set (n*4+3) (.int .i64 i)=cellsU (us.set n ⟨x.s,x.k,x.a,i⟩)
 | [],_,_,_,h=>by simp at h
 | y :: us,0,x,i,h=>by
  simp only [List.getElem?_cons_zero,Option.some.injEq] at h
  subst h
  rfl
 | y :: us,n+1,x,i,h=>by
  have:=cellsU_steps us n x i (by simpa using h)
  have e1:(n+1)*4+3=n*4+3+1+1+1+1:=by omega
  rw [e1,List.set_cons_succ]
  simp only [cellsU,List.set_cons_succ,this]
theorem OwnU.steps {w:World} {base G N c n:Nat} {us:List Uni} {x:Uni} {i:Int} (h:OwnU w base (.slice (some ⟨G,0,none⟩) N c) us) (hx:us[n]?=some x):OwnU (w.setCell ⟨G,n*4+3,none⟩ (.int .i64 i)) base (.slice (some ⟨G,0,none⟩) N c) (us.set n ⟨x.s,x.k,x.a,i⟩):=by
 have hN:N=us.length:=by
  obtain⟨A,c',e⟩:=h.slice
  simp only [Value.slice.injEq] at e
  exact e.2.1
 subst hN
 have h2:=(World.ownsRow.stored h (n*4+3) (.int .i64 i)).1
 rw [cellsU_steps us n x i hx] at h2
 unfold OwnU
 rw [List.length_set]
 exact h2
theorem OwnU.cell3 {w:World} {base G N c q:Nat} {us:List Uni} {x:Uni} (h:OwnU w base (.slice (some ⟨G,0,none⟩) N c) us) (hx:us[q]?=some x):w.cell? ⟨G,q*4+3,none⟩=some (.int .i64 x.t)∧w.cell? ⟨G,q*4+2,none⟩=some (.int .i64 x.a):=by
 obtain⟨A2,c2,e2,h2⟩:=h.rd
 simp only [Value.slice.injEq] at e2
 obtain⟨e2,_,_⟩:=e2
 obtain⟨g2,o2,e3,h3⟩:=h2 (by have:=(List.getElem?_eq_some_iff.1 hx).1;omega)
 rw [← e2] at e3
 simp only [Option.some.injEq,Addr.mk.injEq] at e3
 obtain⟨rfl,rfl,_⟩:=e3
 have h4:=h3 q _ hx
 obtain⟨_,_,a2,a3⟩:=h4
 simp only [Nat.zero_add] at a2 a3
 exact⟨a3,a2⟩
set_option maxRecDepth 100000 in
theorem l1Most_anyP (a b:Int) (w:World):Calls Tryz.prog 201 #[.int .i64 a,.int .i64 b] w fun e w'=>e=.returned (.int .i64 (max a b))∧w'=w:=by
 by_cases h:b<a
 ·have hm:max a b=a:=by omega
  have hd:decide (b<a)=true:=by simpa using h
  rw [hm]
  go_enter Tryz.func201,Tryz.ntmps201
  go_wp2_with fail
  go_ret
  exact⟨rfl,rfl⟩
 ·have hm:max a b=b:=by omega
  have hd:decide (b<a)=false:=by simpa using h
  rw [hm]
  go_enter Tryz.func201,Tryz.ntmps201
  go_wp2_with fail
  go_ret
  exact⟨rfl,rfl⟩
/-- The list with a loss, in its block; all other blocks as they were. -/
def LoPost (w:World) (base:Nat) (v:Value) (l:List Uni) (G:Nat) (e:Ending) (w':World):Prop :=
 (∃ v,e=.returned v)∧OwnU w' base v l∧(∀ w0,Kp w0 w→w0.heap.size≤G→Kp w0 w')∧(∀ b v0 v1 v2,b ≠ G→LivS w b v0 v1 v2→LivS w' b v0 v1 v2)∧∀ b i v,b ≠ G→w.cell? ⟨b,i,none⟩=some v→w'.cell? ⟨b,i,none⟩=some v
set_option maxRecDepth 100000 in
set_option maxHeartbeats 4000000 in
theorem sLose_any (T Z:Int) (G N c q base:Nat) (us:List Uni) (x:Uni) (n:Int) (w:World) (h:OwnU w base (.slice (some ⟨G,0,none⟩) N c) us) (hN:us.length=N) (hx:us[q]?=some x) (ht:isI64 x.t∧0≤x.t) (hn:0≤n∧n≤4) :
  Calls Tryz.prog 164 #[sv T Z (.slice (some ⟨G,0,none⟩) N c),.int .i64 q,.int .i64 n] w (LoPost w base (.slice (some ⟨G,0,none⟩) N c) (loL us q n) G):=by
 obtain⟨sx,kx,ax,tx⟩:=x
 simp only at ht
 have hq:q<N:=by
  have:=(List.getElem?_eq_some_iff.1 hx).1
  omega
 have hlt':(q:Int)<N:=by omega
 have hqO:((q:Int)).toNat=q:=by omega
 have hHX:=Lib.hid hx
 have HN:=Lib.hid hN
 have hGs:=(World.ownsRow.lt h G rfl).2
 obtain⟨M,hM⟩:∃ M,max 0 (tx - n)=M:=⟨_,rfl⟩
 have CM:Hid (∀ w,Calls Tryz.prog 201 #[.int .i64 0,.int .i64 (tx - n)] w fun e w'=>e=.returned (.int .i64 M)∧w'=w):=Lib.hid fun w=>by
  rw [← hM]
  exact l1Most_anyP 0 (tx - n) w
 have es:IntKind.i64.wrap (tx - n)=tx - n:=IntWalk.i64_in _ (by have:=ht.1;unfold isI64 at this;omega)
 have kb:Kp w (w.alloc (.cells #[.int .i64 T,.int .i64 Z,.slice (some ⟨G,0,none⟩) N c] 51)):=(Kp.refl w).alloc _
 have ob:=h.keep kb
 have c2:(w.alloc (.cells #[.int .i64 T,.int .i64 Z,.slice (some ⟨G,0,none⟩) N c] 51)).cell? ⟨w.heap.size,2,none⟩=some (.slice (some ⟨G,0,none⟩) N c):=by simp [go_sem]
 have b3:=(ob.cell3 hx).1
 have HK1:Hid (∀ w0,Kp w0 w→Kp w0 (w.alloc (.cells #[.int .i64 T,.int .i64 Z,.slice (some ⟨G,0,none⟩) N c] 51))):=Lib.hid fun w0 k=>k.trans kb
 have HL1:Hid (∀ b v0 v1 v2,LivS w b v0 v1 v2→LivS (w.alloc (.cells #[.int .i64 T,.int .i64 Z,.slice (some ⟨G,0,none⟩) N c] 51)) b v0 v1 v2):=Lib.hid fun b v0 v1 v2 l=>livS_keep kb l
 have HC1:Hid (∀ b i v,w.cell? ⟨b,i,none⟩=some v→(w.alloc (.cells #[.int .i64 T,.int .i64 Z,.slice (some ⟨G,0,none⟩) N c] 51)).cell? ⟨b,i,none⟩=some v):=Lib.hid fun b i v l=>kb.cell l
 simp only at b3
 clear h hN hx kb
 go_enter Tryz.func164,Tryz.ntmps164
 go_upto_region 1 with (fail)
 generalize (w.alloc (.cells #[.int .i64 T,.int .i64 Z,.slice (some ⟨G,0,none⟩) N c] 51))=w1 at *
 refine wp_region_still_tail 14 (by kernel_rfl) (by kernel_rfl) ?_
 simp only [List.take_succ_cons,List.take_zero,List.drop_succ_cons,List.drop_zero]
 repeat still_step
 still_call (CM.out _)
 repeat still_step
 try refine wpStill_nil ?_
 change wpList _ _ _ _ _ w1.drew
 have k5:Kp w1 w1.drew:=(Kp.refl w1).drew
 have ob5:=ob.keep k5
 have c5:=k5.cell c2
 have b5:=k5.cell b3
 have HK5:Hid (∀ w0,Kp w0 w→Kp w0 w1.drew):=Lib.hid fun w0 k=>(HK1.out w0 k).trans k5
 have HL5:Hid (∀ b v0 v1 v2,LivS w b v0 v1 v2→LivS w1.drew b v0 v1 v2):=Lib.hid fun b v0 v1 v2 l=>livS_keep k5 (HL1.out b v0 v1 v2 l)
 have HC5:Hid (∀ b i v,w.cell? ⟨b,i,none⟩=some v→w1.drew.cell? ⟨b,i,none⟩=some v):=Lib.hid fun b i v l=>k5.cell (HC1.out b i v l)
 clear ob c2 b3 HK1 HL1 HC1 k5
 generalize w1.drew=w5 at *
 have f5:=World.ownsRow.frozenAt (ob5.row HN.out) (q*4+3)
 have hne:G ≠ w.heap.size:=by omega
 have o6:=ob5.steps (i:=M) hHX.out
 have f6:=World.ownsRow.frozenAt (o6.row (by rw [List.length_set];exact HN.out)) (q*4+2)
 have h6:(us.set q ⟨sx,kx,ax,M⟩)[q]?=some ⟨sx,kx,ax,M⟩:=by
  rw [List.getElem?_set_self (by have:=HN.out;omega)]
 have b6:=(o6.cell3 h6).2
 have O6:=Lib.hid o6
 have H6:=Lib.hid h6
 simp only at b6
 clear ob5 o6 h6
 by_cases hz:M=0
 ·subst hz
  have HE:Hid (loL us q n=us.set q ⟨sx,kx,-1,0⟩):=Lib.hid (by rw [loL_at hHX.out,loU,if_pos (by simp only;omega)])
  clear hM CM es
  go_wp2_with fail
  refine⟨rfl,.tuple #[],(by simp [results,Tryz.results164,go_sem]),⟨_,rfl⟩,?_,fun w0 k0 hg=>((HK5.out w0 k0).setCell (by simp;omega) _).setCell (by simp;omega) _,fun b v0 v1 v2 hb l=>?_,fun b i v hb l=>?_⟩
  ·rw [HE.out]
   have o7:=O6.out.place (i:=-1) H6.out
   rw [plU_at H6.out,List.set_set] at o7
   exact o7
  ·obtain⟨l1,l2,l3⟩:=HL5.out b v0 v1 v2 l
   exact⟨by simp [go_sem, *],by simp [go_sem, *],by simp [go_sem, *]⟩
  ·have l1:=HC5.out b i v l
   clear HC5 HL5 HK5
   simp [go_sem, *]
 ·have hd:(M == 0)=false:=by simpa using hz
  have HE:Hid (loL us q n=us.set q ⟨sx,kx,ax,M⟩):=Lib.hid (by rw [loL_at hHX.out,loU,if_neg (by simp only;omega)];simp only [show tx - n=M by omega])
  clear hM CM es
  go_wp2_with fail
  refine⟨rfl,.tuple #[],(by simp [results,Tryz.results164,go_sem]),⟨_,rfl⟩,?_,fun w0 k0 hg=>(HK5.out w0 k0).setCell (by simp;omega) _,fun b v0 v1 v2 hb l=>?_,fun b i v hb l=>?_⟩
  ·rw [HE.out]
   exact O6.out
  ·obtain⟨l1,l2,l3⟩:=HL5.out b v0 v1 v2 l
   exact⟨by simp [go_sem, *],by simp [go_sem, *],by simp [go_sem, *]⟩
  ·have l1:=HC5.out b i v l
   clear HC5 HL5 HK5
   simp [go_sem, *]
end Go.Proofs.YtacgknllagdkoaaGreatDoor
