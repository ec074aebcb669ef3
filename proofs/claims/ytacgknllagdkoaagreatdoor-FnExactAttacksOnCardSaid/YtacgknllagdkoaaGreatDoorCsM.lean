/-
 Costs of steps and paths as plain numbers: what a step costs, the hexes of a path, the costs along it, how many first steps are within moves, the cheapest and the costliest step. No program is looked into.
-/
import Derived.Test.YtacgknllagdkoaaGreatDoorQa
import Derived.Test.YtacgknllagdkoaaGreatDoorQj
import Derived.Test.YtacgknllagdkoaaGreatDoorQa
namespace Go.Proofs.YtacgknllagdkoaaGreatDoor
open Go.RowKit
/-- What the weather adds along a road. -/
def wRd (tw:Int):Int:=if tw=2 then 1 else 0
/-- The cost of a step from a hex in a direction, or 0. -/
def stp (l:List Ter) (lt lr ld:List Int) (W H rv rd:Int) (k:Nat) (tw i dd:Int):Int :=
 if nbB W H i dd=true then
  if costB l lt k (nbI W i dd).toNat=0 then 0
  else if hasB ld (edgI W i dd)=true then rd+wRd tw
  else costB l lt k (nbI W i dd).toNat+tw+(if hasB lr (edgI W i dd)=true then rv else 0)
 else 0
def wthB (tw:Int):Bool:=spB 0 2 tw
theorem wth_true {tw:Int} (h:wthB tw=true):tw=0∨tw=1∨tw=2:=by
 simp only [wthB,spB,Bool.and_eq_true,decide_eq_true_iff] at h
 omega
theorem wRd_bd (tw:Int):0≤wRd tw∧wRd tw≤1:=by unfold wRd;split <;> omega
theorem wRd_max {tw:Int} (h:tw=0∨tw=1∨tw=2):max (tw - 1) 0=wRd tw:=by
 rcases h with rfl | rfl | rfl <;> decide
theorem wRd_quo {tw:Int} (h:tw=0∨tw=1∨tw=2):tw.tdiv 2=wRd tw:=by
 rcases h with rfl | rfl | rfl <;> decide
theorem brd_lim {l:List Ter} {m:List Knd} {a b c d e W H:Int} {lt lr ld:List Int} (h:brdOk ⟨l,m,a,b,c,d,e⟩ W H lt lr ld=true):(0≤b∧b≤9)∧(1≤c∧c≤9):=by
 have:=brdOk_rul h
 simp only [rulOk,limB,spB,Bool.and_eq_true,decide_eq_true_iff] at this
 omega
theorem nb_at {W H i dd:Int} {n:Nat} (h:nbB W H i dd=true) (hn:(n:Int)=W*H):∃ j:Nat,nbI W i dd=j∧j<n:=by
 obtain⟨_,_,h1,h2⟩:=nbB_true h
 exact⟨(nbI W i dd).toNat,by omega,by omega⟩
theorem nb_onI {W H i dd:Int} (h:nbB W H i dd=true):onI W H (nbI W i dd)=true:=by
 obtain⟨_,_,h1,h2⟩:=nbB_true h
 exact onI_mk h1 h2
/-- Where a step leads, and what it costs: what is known. -/
theorem stp_no {l:List Ter} {lt lr ld:List Int} {W H rv rd:Int} {k:Nat} {tw i dd:Int} (h:nbB W H i dd=false):stp l lt lr ld W H rv rd k tw i dd=0:=by
 unfold stp;rw [h];rfl
theorem stp_shut {l:List Ter} {lt lr ld:List Int} {W H rv rd:Int} {k:Nat} {tw i dd:Int} (h:nbB W H i dd=true) (hz:costB l lt k (nbI W i dd).toNat=0):stp l lt lr ld W H rv rd k tw i dd=0:=by
 unfold stp;rw [if_pos h,if_pos hz]
theorem stp_open {l:List Ter} {lt lr ld:List Int} {W H rv rd:Int} {k:Nat} {tw i dd:Int} (h:nbB W H i dd=true) (hz:costB l lt k (nbI W i dd).toNat ≠ 0) :
  stp l lt lr ld W H rv rd k tw i dd=if hasB ld (edgI W i dd)=true then rd+wRd tw else costB l lt k (nbI W i dd).toNat+tw+(if hasB lr (edgI W i dd)=true then rv else 0):=by
 unfold stp;rw [if_pos h,if_neg hz]
theorem stp_bd {l:List Ter} {m:List Knd} {a b c d e W H:Int} {lt lr ld:List Int} {k:Nat} (hok:brdOk ⟨l,m,a,b,c,d,e⟩ W H lt lr ld=true) (hk:k<m.length) {tw:Int} (ht:tw=0∨tw=1∨tw=2) (i dd:Int) :
  0≤stp l lt lr ld W H b c k tw i dd∧stp l lt lr ld W H b c k tw i dd≤20:=by
 obtain⟨⟨b0,b1⟩,c0,c1⟩:=brd_lim hok
 cases hn:nbB W H i dd
 ·rw [stp_no hn];omega
 ·obtain⟨j,hj,hjl⟩:=nb_at hn (mapOk_len (brdOk_map hok))
  obtain⟨_,_,z,_,_,_,_,_,h6,h7,h8⟩:=brd_hex hok hk hjl
  by_cases hz:costB l lt k (nbI W i dd).toNat=0
  ·rw [stp_shut hn hz];omega
  ·rw [stp_open hn hz]
   have:=wRd_bd tw
   rw [hj,Int.toNat_natCast,h6]
   split
   ·omega
   ·split <;> omega
theorem stp_pos {l:List Ter} {m:List Knd} {a b c d e W H:Int} {lt lr ld:List Int} {k:Nat} (hok:brdOk ⟨l,m,a,b,c,d,e⟩ W H lt lr ld=true) (hk:k<m.length) {tw:Int} (ht:tw=0∨tw=1∨tw=2) {i dd:Int} (hn:nbB W H i dd=true) (hz:costB l lt k (nbI W i dd).toNat ≠ 0) :
  0<stp l lt lr ld W H b c k tw i dd:=by
 obtain⟨⟨b0,b1⟩,c0,c1⟩:=brd_lim hok
 obtain⟨j,hj,hjl⟩:=nb_at hn (mapOk_len (brdOk_map hok))
 obtain⟨_,_,z,_,_,_,_,_,h6,h7,h8⟩:=brd_hex hok hk hjl
 have hz':=hz
 rw [hj,Int.toNat_natCast,h6] at hz'
 rw [stp_open hn hz]
 have:=wRd_bd tw
 rw [hj,Int.toNat_natCast,h6]
 split
 ·omega
 ·split <;> omega
/-- A step that costs something leads to a hex of the map. -/
theorem stp_nb {l:List Ter} {lt lr ld:List Int} {W H rv rd:Int} {k:Nat} {tw i dd:Int} (h:stp l lt lr ld W H rv rd k tw i dd ≠ 0):nbB W H i dd=true:=by
 cases hn:nbB W H i dd
 ·exact absurd (stp_no hn) h
 ·rfl
def sumL:List Int→Int
 | []=>0
 | x :: l=>x+sumL l
theorem sumL_app (a b:List Int):sumL (a++b)=sumL a+sumL b:=by
 induction a with
 | nil=>simp [sumL]
 | cons x a ih=>simp only [List.cons_append,sumL,ih];omega
theorem sumL_one (x:Int):sumL [x]=x:=by simp [sumL]
theorem sumL_two (x y:Int):sumL [x,y]=x+y:=by simp [sumL]
theorem sumL_three (x y z:Int):sumL [x,y,z]=x+(y+z):=by simp [sumL]
theorem sumL_bd {B:Int} (hB:0≤B):∀ (l:List Int),(∀ x ∈ l,0≤x∧x≤B)→0≤sumL l∧sumL l≤l.length*B
 | [],_=>by simp [sumL]
 | x :: l,h=>by
  have h1:=h x (by simp)
  have h2:=sumL_bd hB l fun y hy=>h y (by simp [hy])
  simp only [sumL,List.length_cons]
  have h3:((l.length+1:Nat):Int)*B=l.length*B+B:=by rw [Int.natCast_add,Int.add_mul];omega
  omega
theorem sumL_take {l:List Int} {q:Nat} {x:Int} (h:l[q]?=some x):sumL (l.take (q+1))=sumL (l.take q)+x:=by
 rw [List.take_add_one,h,sumL_app]
 simp [sumL]
theorem take_bd {B:Int} {l:List Int} (h:∀ x ∈ l,0≤x∧x≤B) (q:Nat):∀ x ∈ l.take q,0≤x∧x≤B:=fun x hx=>h x (List.mem_of_mem_take hx)
/-- The costs along a path, up to the first step that does not exist. -/
def cstP (F:Int→Int→Int) (W:Int):Int→List Int→List Int
 | _,[]=>[]
 | i,x :: p=>if F i x=0 then [] else F i x :: cstP F W (nbI W i x) p
/-- Where a path leads, step after step. -/
def endP (W:Int):Int→List Int→Int
 | i,[]=>i
 | i,x :: p=>endP W (nbI W i x) p
theorem endP_app (W:Int):∀ (p:List Int) (i x:Int),endP W i (p++[x])=nbI W (endP W i p) x
 | [],_,_=>rfl
 | y :: p,i,x=>by simp only [List.cons_append,endP];exact endP_app W p _ x
theorem cstP_len (F:Int→Int→Int) (W:Int):∀ (p:List Int) (i:Int),(cstP F W i p).length≤p.length
 | [],_=>by simp [cstP]
 | x :: p,i=>by
  unfold cstP
  split
  ·simp
  ·simp only [List.length_cons]
   have:=cstP_len F W p (nbI W i x)
   omega
theorem cstP_bd {F:Int→Int→Int} {W B:Int} (h:∀ i x,0≤F i x∧F i x≤B):∀ (p:List Int) (i:Int),∀ y ∈ cstP F W i p,0≤y∧y≤B
 | [],_,y,hy=>by simp [cstP] at hy
 | x :: p,i,y,hy=>by
  unfold cstP at hy
  split at hy
  ·simp at hy
  ·rcases List.mem_cons.1 hy with rfl | hy
   ·exact h i x
   ·exact cstP_bd h p _ y hy
/-- A path all of whose steps exist has as many costs, and the other way round. -/
theorem cstP_next {F:Int→Int→Int} {W:Int}:∀ {p:List Int} {i:Int} {q:Nat} {x:Int},(cstP F W i (p.take q)).length=q→p[q]?=some x→F (endP W i (p.take q)) x ≠ 0→cstP F W i (p.take (q+1))=cstP F W i (p.take q)++[F (endP W i (p.take q)) x]∧(cstP F W i (p.take (q+1))).length=q+1
 | [],_,_,_,_,h,_=>by simp at h
 | y :: p,i,0,x,_,h,hx=>by
  simp only [List.getElem?_cons_zero,Option.some.injEq] at h
  subst h
  simp only [List.take_zero,endP] at hx
  simp [cstP,endP,hx]
 | y :: p,i,q+1,x,hl,h,hx=>by
  simp only [List.getElem?_cons_succ] at h
  simp only [List.take_succ_cons,endP] at hx ⊢
  have hy:F i y ≠ 0:=fun e=>by simp [cstP,e] at hl
  simp only [List.take_succ_cons,cstP,if_neg hy,List.length_cons,Nat.add_right_cancel_iff] at hl ⊢
  obtain⟨h1,h2⟩:=cstP_next hl h hx
  rw [h1] at h2 ⊢
  exact⟨by simp,by simpa using h2⟩
theorem endP_next {W:Int} {p:List Int} {i:Int} {q:Nat} {x:Int} (h:p[q]?=some x):endP W i (p.take (q+1))=nbI W (endP W i (p.take q)) x:=by
 rw [List.take_add_one,h]
 exact endP_app W _ i x
end Go.Proofs.YtacgknllagdkoaaGreatDoor
