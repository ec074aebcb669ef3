/-
 What a row's list says of the program's five faults: where they lie, and that they lie apart.
-/
import Derived.Test.YtacgknllagdkoaaGreatDoorOrI
import Derived.Stop.LaidErr
import Derived.Test.YtacgknllagdkoaaGreatDoorQa
import Derived.Test.YtacgknllagdkoaaGreatDoorQj
import Derived.Test.YtacgknllagdkoaaGreatDoorQa
namespace Go.Proofs.YtacgknllagdkoaaGreatDoor
open Go.ChangeShapes Go.WideShapes Go.ChangeAt Go.RowKit Go.Joins
/-- The places that a row's list takes, variable by variable. -/
theorem laid_segs {P:Program} {w:World}:∀ {l:List (String × DataW Unit)} {ps:List MemPlace},DataW.LaidVars P w l ps →
  ∃ segs:List (List MemPlace),ps=segs.flatten∧∀ (i:Nat) (n:String) (d:DataW Unit),l[i]?=some (n,d) →
   ∃ g t cs fuel p seg,P.globalNamed n=some g∧(P.globals[g]?).map (·.type)=some t∧w.var? P n=some cs∧DataW.trod (fun _=>()) P w 0 (fun _=>true) false fuel t cs.toList=some (d,p)∧segs[i]?=some seg∧seg=MemPlace.row ⟨g,0,none⟩ cs.size++p
 | [],ps,h=>⟨[],by simpa [DataW.LaidVars] using h,fun i n d hi=>by simp at hi⟩
 | (m,e) :: r,ps,h=>by
  obtain⟨g,t,cs,fuel,p,q,h1,h2,h3,h4,hr,hps⟩:=h
  obtain⟨segs,hq,hs⟩:=laid_segs hr
  refine⟨(MemPlace.row ⟨g,0,none⟩ cs.size++p) :: segs,by rw [hps,hq,List.flatten_cons],fun i n d hi=>?_⟩
  match i with
  | 0 =>
   simp only [List.getElem?_cons_zero,Option.some.injEq,Prod.mk.injEq] at hi
   obtain⟨rfl,rfl⟩:=hi
   exact⟨g,t,cs,fuel,p,_,h1,h2,h3,h4,rfl,rfl⟩
  | i+1 =>
   simp only [List.getElem?_cons_succ] at hi
   obtain⟨g',t',cs',fuel',p',seg,a1,a2,a3,a4,a5,a6⟩:=hs i n d hi
   exact⟨g',t',cs',fuel',p',seg,a1,a2,a3,a4,by simpa using a5,a6⟩
theorem segs_apart {segs:List (List MemPlace)} (hn:segs.flatten.Nodup) {i j:Nat} {s t:List MemPlace} (hi:segs[i]?=some s) (hj:segs[j]?=some t) (hij:i<j) {x:MemPlace} (hx:x ∈ s):x ∉ t:=by
 intro hy
 have h:=(List.pairwise_flatten.1 hn).2
 obtain⟨hi',rfl⟩:=List.getElem?_eq_some_iff.1 hi
 obtain⟨hj',rfl⟩:=List.getElem?_eq_some_iff.1 hj
 exact(List.pairwise_iff_getElem.1 h i j hi' hj' hij) x hx x hy rfl
theorem err_star:"*errors.errorString"="*"++"errors.errorString":=by decide
theorem row_err (u:TypeId) (h:Tryz.prog.typeName? 3 u=some "*errors.errorString"):u=325 :=
 typeName_ptr_named (nm:="errors.errorString") (by rw [← err_star];kernel_rfl) (by kernel_rfl) (by decide) u (by rw [← err_star];exact h)
set_option maxRecDepth 100000 in
/-- One fault of the list. -/
theorem laid_fault {W:World} {l:List (String × DataW Unit)} {ps:List MemPlace} {segs:List (List MemPlace)} {n:String} {text:List UInt8} {i g:Nat} (hps:ps=segs.flatten)
  (hrows:∀ b off,MemPlace.cell b off ∈ ps→(∃ c t,W.heap[b]?=some (.cells c t (0,0)))∧∀ u v,W.cell? ⟨b,off,none⟩=some (.iface u v)→Value.okWide Tryz.prog W .any 0 u v)
  (hs:∀ (i:Nat) (n:String) (d:DataW Unit),l[i]?=some (n,d)→∃ g t cs fuel p seg,Tryz.prog.globalNamed n=some g∧(Tryz.prog.globals[g]?).map (·.type)=some t∧W.var? Tryz.prog n=some cs∧DataW.trod (fun _=>()) Tryz.prog W 0 (fun _=>true) false fuel t cs.toList=some (d,p)∧segs[i]?=some seg∧seg=MemPlace.row ⟨g,0,none⟩ cs.size++p)
  (hi:l[i]?=some (n,.iface "*errors.errorString" (.ptr (.agg [.lit (.string text)])))) (hg:Tryz.prog.globalNamed n=some g) (ht:(Tryz.prog.globals[g]?).map (·.type)=some 109) :
  ∃ (a:Addr) (seg:List MemPlace),W.cell? ⟨g,0,none⟩=some (.iface 325 (.pointer (some a)))∧(∃ c t,W.heap[a.block]?=some (.cells c t (0,0)))∧segs[i]?=some seg∧MemPlace.cell a.block a.off ∈ seg∧a.spot=none:=by
 obtain⟨g',t',cs,fuel,p,seg,h1,h2,h3,h4,h5,h6⟩:=hs i n _ hi
 obtain rfl:=Option.some.inj (hg.symm.trans h1)
 obtain rfl:=Option.some.inj (ht.symm.trans h2)
 obtain⟨l0⟩:=cs
 have hmem:∀ x ∈ seg,x ∈ ps:=fun x hx=>by
  rw [hps,List.mem_flatten]
  exact⟨seg,List.mem_of_getElem? h5,hx⟩
 have hv:=World.var?_cell hg h3 0
 have ok0:∀ u v,l0=[.iface u v]→Value.okWide Tryz.prog W .any 0 u v:=fun u v e=>by
  subst e
  exact(hrows g 0 (hmem _ (by rw [h6];simp [MemPlace.row]))).2 u v (by simpa using hv)
 obtain⟨a0,s0,rfl,hc0,hs0,hz0,hp0⟩:=errorString_of_trod Tryz.underlying109 row_err Tryz.underlying325 Tryz.underlying346 rfl rfl Tryz.underlying9 (by kernel_rfl) (by kernel_rfl) h4 ok0
 subst hp0
 have hm:MemPlace.cell a0.block a0.off ∈ seg:=by rw [h6];simp [MemPlace.row]
 exact⟨a0,seg,by simpa using hv,(hrows _ _ (hmem _ hm)).1,h5,hm,World.cell?_spot hc0⟩
end Go.Proofs.YtacgknllagdkoaaGreatDoor
