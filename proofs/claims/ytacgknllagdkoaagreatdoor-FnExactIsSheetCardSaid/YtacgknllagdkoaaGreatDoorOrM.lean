/-
 Orders as plain numbers: whether a unit of a side is on the map, where its path leads, the code of an order, the first order of a sheet with a fault. No program is looked into.
-/
import Derived.Test.YtacgknllagdkoaaGreatDoorSuM
import Derived.Test.YtacgknllagdkoaaGreatDoorCsF
import Derived.Test.YtacgknllagdkoaaGreatDoorQa
import Derived.Test.YtacgknllagdkoaaGreatDoorQa
namespace Go.Proofs.YtacgknllagdkoaaGreatDoor
open Go.RowKit
structure Odr where
 u:Int
 p:List Int
 a:Int
/-- The moves of a kind. -/
def mvN (m:List Knd) (k:Int):Int:=((m[k.toNat]?).map (·.mov)).getD 0
/-- A unit of the side that is on the map has this number. -/
def plcB (us:List Uni) (sd u:Int):Bool:=(inB u us.length && decide ((unN us u).s=sd)) && decide ((unN us u).a ≠ -1)
/-- All steps of a path exist. -/
def wlkB (F:Int→Int→Int) (W i:Int) (p:List Int):Bool:=decide ((cstP F W i p).length=p.length)
/-- What an order may attack from a hex. -/
def nebB (W H e a:Int):Bool:=hasB (ints (nbT W H e.toNat 6)) a
def attB (W H e a:Int):Bool:=decide (a=-1) || nebB W H e a
/-- Whether a path is one that a unit can go along. -/
def goB (F:Int→Int→Int) (W i:Int) (p:List Int):Bool:=pthB p && wlkB F W i p
/-- The code of an order behind its unit. -/
def ordR (F:Int→Int→Int) (W H mv i:Int) (p:List Int) (a:Int):Int :=
 if goB F W i p=true then (if mv<sumL (cstP F W i p) then 4 else if attB W H (endP W i p) a=true then 0 else 5) else 3
def ordC (F:Int→Int→Int) (W H mv:Int) (pl:Bool) (i:Int) (p:List Int) (a:Int):Int :=
 if pl=true then ordR F W H mv i p a else 1
/-- The code of an order behind another one. -/
def ordF (F:Int→Int→Int) (W H mv:Int) (pl:Bool) (i:Int) (p:List Int) (a bf u:Int):Int :=
 if pl=true then (if u≤bf then 2 else ordR F W H mv i p a) else 1
theorem plc_parts {us:List Uni} {sd u:Int} (h:plcB us sd u=true):inB u us.length=true∧(unN us u).s=sd∧(unN us u).a ≠ -1:=by
 simp only [plcB,Bool.and_eq_true,decide_eq_true_iff] at h
 exact⟨h.1.1,h.1.2,h.2⟩
theorem hasO_iff {l:List Int} {x:Int}:hasB l x=true ↔ x ∈ l:=by simp [hasB]
theorem neb_nbS (W H:Int) (n:Nat) (a:Int):hasB (ints (nbS W H n)) a=nebB W H (n:Int) a:=by
 rw [Bool.eq_iff_iff]
 unfold nebB
 rw [hasO_iff,hasO_iff,Int.toNat_natCast]
 unfold ints
 rw [List.mem_map,List.mem_map]
 constructor
 ·rintro ⟨k,hk,rfl⟩;exact⟨k,nbS_mem.1 hk,rfl⟩
 ·rintro ⟨k,hk,rfl⟩;exact⟨k,nbS_mem.2 hk,rfl⟩
theorem neb_step {W H:Int} {x q:Nat} {a:Int}:hasB (ints (nbT W H x (q+1))) a=(hasB (ints (nbT W H x q)) a || (nbM W H x q && decide (nbI W x q=a))):=by
 cases h:nbM W H x q
 ·rw [nbT_no h];simp
 ·rw [nbTI_yes h,Bool.eq_iff_iff]
  simp only [hasO_iff,List.mem_append,List.mem_singleton,Bool.or_eq_true,Bool.true_and,decide_eq_true_iff]
  constructor
  ·rintro (h1 | h1)
   ·exact .inl h1
   ·exact .inr h1.symm
  ·rintro (h1 | h1)
   ·exact .inl h1
   ·exact .inr h1.symm
theorem neb_zero (W H:Int) (x:Nat) (a:Int):hasB (ints (nbT W H x 0)) a=false:=by simp [nbT,ints,hasB]
theorem neb_mono {W H:Int} {x q n:Nat} {a:Int} (h:hasB (ints (nbT W H x q)) a=true) (hq:q≤n):hasB (ints (nbT W H x n)) a=true:=by
 obtain⟨d,rfl⟩:∃ d,n=q+d:=⟨n - q,by omega⟩
 clear hq
 induction d with
 | zero=>exact h
 | succ d ih =>
  rw [show q+(d+1)=(q+d)+1 by omega,neb_step,ih]
  rfl
theorem wlk_cons (F:Int→Int→Int) (W i x:Int) (p:List Int):wlkB F W i (x :: p)=(decide (F i x ≠ 0) && wlkB F W (nbI W i x) p):=by
 unfold wlkB
 rw [cstP]
 split
 ·rename_i h
  simp [h]
 ·rename_i h
  simp [h]
/-- Where all steps exist, the path ends on the map. -/
theorem wlk_on {F:Int→Int→Int} {W H:Int} (hF:∀ i d,F i d ≠ 0→nbB W H i d=true):∀ (p:List Int) (i:Int),onI W H i=true→wlkB F W i p=true→onI W H (endP W i p)=true
 | [],i,h,_=>h
 | x :: p,i,h,hw=>by
  rw [wlk_cons,Bool.and_eq_true,decide_eq_true_iff] at hw
  exact wlk_on hF p _ (nb_onI (hF i x hw.1)) hw.2
theorem wlk_take {F:Int→Int→Int} {W:Int}:∀ (p:List Int) (i:Int) (q:Nat),wlkB F W i p=true→wlkB F W i (p.take q)=true
 | [],i,q,_=>by simp [wlkB,cstP]
 | x :: p,i,0,_=>by simp [wlkB,cstP]
 | x :: p,i,q+1,h=>by
  rw [wlk_cons,Bool.and_eq_true] at h
  rw [List.take_succ_cons,wlk_cons,Bool.and_eq_true]
  exact⟨h.1,wlk_take p _ q h.2⟩
theorem wlk_at {F:Int→Int→Int} {W:Int}:∀ (p:List Int) (i:Int) (q:Nat) (x:Int),wlkB F W i p=true→p[q]?=some x→F (endP W i (p.take q)) x ≠ 0
 | [],i,q,x,_,h=>by simp at h
 | y :: p,i,0,x,h,hx=>by
  rw [wlk_cons,Bool.and_eq_true,decide_eq_true_iff] at h
  simp only [List.getElem?_cons_zero,Option.some.injEq] at hx
  subst hx
  exact h.1
 | y :: p,i,q+1,x,h,hx=>by
  rw [wlk_cons,Bool.and_eq_true] at h
  exact wlk_at p _ q x h.2 (by simpa using hx)
theorem wlk_len {F:Int→Int→Int} {W i:Int} {p:List Int} (h:(cstP F W i p).length=p.length):wlkB F W i p=true:=decide_eq_true h
theorem wlk_not {F:Int→Int→Int} {W i:Int} {p:List Int} (h:(cstP F W i p).length ≠ p.length):wlkB F W i p=false:=decide_eq_false h
theorem wlk_stop {F:Int→Int→Int} {W i x:Int} {p:List Int} {q:Nat} (hx:p[q]?=some x) (h0:F (endP W i (p.take q)) x=0):wlkB F W i p=false:=by
 cases h:wlkB F W i p
 ·rfl
 ·exact absurd h0 (wlk_at p i q x h hx)
/-- The moves of a unit's steps. -/
theorem step_nb {l:List Ter} {lt lr ld:List Int} {W H rv rd:Int} {k:Nat} {tw:Int}:∀ i dd,stp l lt lr ld W H rv rd k tw i dd ≠ 0→nbB W H i dd=true:=fun _ _ h=>stp_nb h
theorem goB_pth {F:Int→Int→Int} {W i:Int} {p:List Int} (h:goB F W i p=true):pthB p=true∧wlkB F W i p=true:=by
 simpa [goB] using h
theorem ordC_no (F:Int→Int→Int) (W H mv i:Int) (p:List Int) (a:Int):ordC F W H mv false i p a=1:=rfl
theorem ordF_no (F:Int→Int→Int) (W H mv i:Int) (p:List Int) (a bf u:Int):ordF F W H mv false i p a bf u=1:=rfl
theorem ordF_lt {F:Int→Int→Int} {W H mv i:Int} {pl:Bool} {p:List Int} {a bf u:Int} (h:pl=true→¬ u≤bf):ordF F W H mv pl i p a bf u=ordC F W H mv pl i p a:=by
 unfold ordF ordC
 split
 ·rename_i h1
  rw [if_neg (h h1)]
 ·rfl
theorem ordR_cases (F:Int→Int→Int) (W H mv i:Int) (p:List Int) (a:Int):ordR F W H mv i p a=0∨ordR F W H mv i p a=3∨ordR F W H mv i p a=4∨ordR F W H mv i p a=5:=by
 unfold ordR
 split
 ·split
  ·simp
  ·split <;> simp
 ·simp
theorem ordC_bd (F:Int→Int→Int) (W H mv:Int) (pl:Bool) (i:Int) (p:List Int) (a:Int):0≤ordC F W H mv pl i p a∧ordC F W H mv pl i p a≤5:=by
 unfold ordC
 split
 ·have:=ordR_cases F W H mv i p a;omega
 ·omega
theorem Int_three {Z:Int} (h:0≤Z∧Z≤2):Z=0∨Z=1∨Z=2:=by omega
theorem ord_kind {l:List Ter} {m:List Knd} {W H:Int} {lt:List Int} {z:Uni} (hu:uniOk l m W H lt z=true) (ha:z.a ≠ -1):∃ (j:Nat) (kd:Knd),z.k=j∧j<m.length∧m[j]?=some kd∧onI W H z.a=true:=by
 have hk:=(uniOk_side hu).2.1
 simp only [uniOk,Bool.and_eq_true,Bool.or_eq_true,decide_eq_true_iff] at hu
 have hj:z.k.toNat<m.length:=by omega
 refine⟨z.k.toNat,m[z.k.toNat],by omega,hj,List.getElem?_eq_getElem hj,?_⟩
 rcases hu.2 with h | h
 ·exact absurd h ha
 ·exact h.1.2
theorem ordF_bd (F:Int→Int→Int) (W H mv:Int) (pl:Bool) (i:Int) (p:List Int) (a bf u:Int):0≤ordF F W H mv pl i p a bf u∧ordF F W H mv pl i p a bf u≤5:=by
 unfold ordF
 split
 ·split
  ·omega
  ·have:=ordR_cases F W H mv i p a;omega
 ·omega
/-- The code of an order of a side behind another one. -/
def ordG (l:List Ter) (m:List Knd) (lt lr ld:List Int) (W H b c Z:Int) (us:List Uni) (sd bf:Int) (x:Odr):Int :=
 ordF (stp l lt lr ld W H b c (unN us x.u).k.toNat Z) W H (mvN m (unN us x.u).k) (plcB us sd x.u) (unN us x.u).a x.p x.a bf x.u
/-- The first order with a code that is not 0: its number and the code. -/
def fstO (C:Int→Odr→Int):Int→Nat→List Odr→Nat × Int
 | _,n,[]=>(n,0)
 | bf,n,x :: l=>if C bf x=0 then fstO C x.u (n+1) l else (n,C bf x)
theorem fstO_step {C:Int→Odr→Int} {bf:Int} {q:Nat} {l:List Odr} {x:Odr} (h:l[q]?=some x) (h0:C bf x=0):fstO C bf q (l.drop q)=fstO C x.u (q+1) (l.drop (q+1)):=by
 rw [dropQ h,fstO,if_pos h0]
theorem fstO_stop {C:Int→Odr→Int} {bf:Int} {q:Nat} {l:List Odr} {x:Odr} (h:l[q]?=some x) (h0:C bf x ≠ 0):fstO C bf q (l.drop q)=(q,C bf x):=by
 rw [dropQ h,fstO,if_neg h0]
theorem fstO_end {C:Int→Odr→Int} {bf:Int} {l:List Odr}:fstO C bf l.length (l.drop l.length)=(l.length,0):=by
 rw [List.drop_length]
 rfl
theorem fstO_bd {C:Int→Odr→Int} (hC:∀ bf x,0≤C bf x∧C bf x≤5):∀ (l:List Odr) (bf:Int) (n:Nat),0≤(fstO C bf n l).2∧(fstO C bf n l).2≤5∧(fstO C bf n l).1≤n+l.length
 | [],_,n=>by simp [fstO]
 | x :: l,bf,n=>by
  unfold fstO
  split
  ·have:=fstO_bd hC l x.u (n+1)
   simp only [List.length_cons]
   omega
  ·have:=hC bf x
   simp only [List.length_cons]
   omega
/-- What a sheet's orders must be. -/
def shtB (C:Int→Odr→Int) (sd:Int) (xs:List Odr):Bool:=(spB 0 1 sd && spB 0 12 (xs.length:Int)) && decide ((fstO C (-1) 0 xs).2=0)
theorem sht_len {C:Int→Odr→Int} {sd:Int} {xs:List Odr} (h:shtB C sd xs=true):xs.length≤12:=by
 simp only [shtB,spB,Bool.and_eq_true,decide_eq_true_iff] at h
 omega
end Go.Proofs.YtacgknllagdkoaaGreatDoor
