/-
 Zones of control as plain data: which unit exerts control on a hex, zones, allowed steps, who controls a hex. No program is looked into.
-/
import Derived.Test.YtacgknllagdkoaaGreatDoorQa
import Derived.Test.YtacgknllagdkoaaGreatDoorQl
import Derived.Test.YtacgknllagdkoaaGreatDoorQm
import Derived.Test.YtacgknllagdkoaaGreatDoorQa
namespace Go.Proofs.YtacgknllagdkoaaGreatDoor
open Go.RowKit
/-- A step that crosses no river, or a road. -/
def crsB (W:Int) (lr ld:List Int) (i d:Int):Bool:=!hasB lr (edgI W i d) || hasB ld (edgI W i d)
/-- What the direction from one hex to another is. -/
def dirI (W a i:Int):Int × Bool:=dirRes (i % W - a % W) (i / W - a / W)
def rchB (W:Int) (lr ld:List Int) (a i:Int):Bool:=(dirI W a i).2 && crsB W lr ld a (dirI W a i).1
def znK (m:List Knd) (k:Int):Bool:=((m[k.toNat]?).map (·.zone)).getD false
/-- A unit exerts control on a hex. -/
def exB (l:List Ter) (m:List Knd) (lt lr ld:List Int) (W i:Int) (u:Uni):Bool :=
 decide (u.a ≠ -1) && (znK m u.k && (opnB l lt u.k.toNat i.toNat && rchB W lr ld u.a i))
def srcB (l:List Ter) (m:List Knd) (lt lr ld:List Int) (W s i:Int) (u:Uni):Bool:=decide (u.s=s) && exB l m lt lr ld W i u
def zonB (l:List Ter) (m:List Knd) (lt lr ld:List Int) (W:Int) (us:List Uni) (s i:Int):Bool:=us.any (srcB l m lt lr ld W s i)
def srcL (l:List Ter) (m:List Knd) (lt lr ld:List Int) (W:Int) (us:List Uni) (s i:Int):List Int:=unL (srcB l m lt lr ld W s i) us us.length
/-- The unit with a number. -/
def unN (us:List Uni) (n:Int):Uni:=(us[n.toNat]?).getD ⟨0,0,0,0⟩
theorem unN_of {us:List Uni} {n:Int} (h:inB n us.length=true):∃ k:Nat,n=k∧k<us.length∧us[k]?=some (unN us n):=by
 simp only [inB,Bool.and_eq_true,decide_eq_true_iff] at h
 obtain⟨k,rfl⟩:∃ k:Nat,n=k:=⟨n.toNat,by omega⟩
 have hk:k<us.length:=by omega
 refine⟨k,rfl,hk,?_⟩
 unfold unN
 rw [Int.toNat_natCast,List.getElem?_eq_getElem hk]
 rfl
theorem unL_any (f:Uni→Bool) (us:List Uni):decide (0<(unL f us us.length).length)=us.any f:=by
 rw [Bool.eq_iff_iff,decide_eq_true_iff,List.any_eq_true]
 constructor
 ·intro h
  obtain⟨x,hx⟩:=List.exists_mem_of_length_pos h
  obtain⟨j,u,hj,_,hu,hf⟩:=unL_mem hx
  exact⟨u,List.mem_of_getElem? hu,hf⟩
 ·rintro ⟨u,hu,hf⟩
  obtain⟨j,hj,e⟩:=List.mem_iff_getElem.1 hu
  exact List.length_pos_of_mem (unL_has hj (List.getElem?_eq_some_iff.2 ⟨hj,e⟩) hf)
theorem srcL_any (l:List Ter) (m:List Knd) (lt lr ld:List Int) (W:Int) (us:List Uni) (s i:Int):decide (0<(srcL l m lt lr ld W us s i).length)=zonB l m lt lr ld W us s i:=unL_any _ us
/-- Which direction leads from one hex of a map to another. -/
theorem nb_iff {W H a i d:Int} (hW:1≤W) (hi:onI W H i=true) (hW2:W≤10):(nbM W H a d=true∧nbI W a d=i) ↔ (i % W - a % W=dirQ d∧i / W - a / W=dirR d):=by
 obtain⟨i0,i1⟩:=onI_true hi
 obtain⟨h1,h2,h3,h4⟩:=hex_bd hW hW2 i0 i1
 have hd:=Int.mul_ediv_add_emod i W
 unfold nbM nbI idxM nbQ nbR
 constructor
 ·rintro ⟨h,e⟩
  obtain⟨q0,q1,r0,r1⟩:=inM_true h
  have e1:i % W=a % W+dirQ d:=by
   rw [← e,Int.add_comm ((a / W+dirR d)*W),Int.add_mul_emod_self_right]
   exact Int.emod_eq_of_lt q0 q1
  have e2:i / W=a / W+dirR d:=by
   rw [← e,Int.add_comm ((a / W+dirR d)*W),Int.add_mul_ediv_right _ _ (by omega),Int.ediv_eq_zero_of_lt q0 q1]
   omega
  omega
 ·rintro ⟨e1,e2⟩
  have q:a % W+dirQ d=i % W:=by omega
  have r:a / W+dirR d=i / W:=by omega
  rw [q,r]
  refine⟨inM_mk h1 h2 h3 h4,?_⟩
  rw [Int.mul_comm]
  omega
theorem nb_no {W H a i d:Int} (hW:1≤W) (hi:onI W H i=true) (hW2:W≤10):orNo (nbM W H a d) (nbI W a d)=i ↔ (i % W - a % W=dirQ d∧i / W - a / W=dirR d):=by
 rw [← nb_iff (H:=H) hW hi hW2]
 have:=(onI_true hi).1
 cases nbM W H a d
 ·rw [orNo_false]
  constructor
  ·intro h;omega
  ·rintro ⟨h,_⟩;cases h
 ·rw [orNo_true]
  simp
/-- What the directions before have not led to. -/
def noNb (W a i:Int) (k:Nat):Prop:=noDir (i % W - a % W) (i / W - a / W) k
theorem noNb_succ {W H a i:Int} {k:Nat} (hW:1≤W) (hi:onI W H i=true) (hW2:W≤10) (h:noNb W a i k) (hk:¬ orNo (nbM W H a k) (nbI W a k)=i):noNb W a i (k+1) :=
 noDir_succ h fun h2=>hk ((nb_no hW hi hW2).2 h2)
theorem rchB_none {W a i:Int} {lr ld:List Int} (h:noNb W a i 6):rchB W lr ld a i=false:=by
 unfold rchB dirI
 rw [dirRes_no h]
 rfl
theorem rchB_at {W H a i:Int} {lr ld:List Int} {k:Nat} (hW:1≤W) (hi:onI W H i=true) (hW2:W≤10) (hk:k<6) (h:orNo (nbM W H a k) (nbI W a k)=i):rchB W lr ld a i=crsB W lr ld a k:=by
 have:=(nb_no hW hi hW2).1 h
 unfold rchB dirI
 rw [dirRes_at hk this]
 rfl
theorem nbB_at {W H a i:Int} {k:Nat} (hi:onI W H i=true) (ha:onI W H a=true) (hk:k<6) (h:orNo (nbM W H a k) (nbI W a k)=i):nbB W H a k=true:=by
 have:=(onI_true hi).1
 unfold nbB
 cases hn:nbM W H a k
 ·rw [hn,orNo_false] at h
  omega
 ·rw [ha,dirB_mk (by omega) (by omega)]
  rfl
/-- What the program's direction says. -/
theorem dirI_cases {W H a i:Int} (hW:1≤W) (hW2:W≤10) (ha:onI W H a=true) (hi:onI W H i=true):(dirI W a i).2=false∨∃ k:Nat,k<6∧dirI W a i=((k:Int),true)∧nbB W H a k=true:=by
 by_cases h:noDir (i % W - a % W) (i / W - a / W) 6
 ·exact .inl (by unfold dirI;rw [dirRes_no h])
 ·refine .inr ?_
  unfold noDir at h
  simp only [Classical.not_forall,Classical.not_not] at h
  obtain⟨k,hk,h1⟩:=h
  refine⟨k,hk,dirRes_at hk h1,nbB_at hi ha hk ((nb_no hW hi hW2).2 h1)⟩
theorem uniOk_kind {l:List Ter} {m:List Knd} {W H:Int} {lt:List Int} {u:Uni} (h:uniOk l m W H lt u=true):∃ (j:Nat) (x:Knd),u.k=j∧j<m.length∧m[j]?=some x∧znK m u.k=x.zone:=by
 obtain⟨h0,h1⟩:=(uniOk_side h).2.1
 obtain⟨j,e⟩:∃ j:Nat,u.k=j:=⟨u.k.toNat,by omega⟩
 have hx:m[j]?=some (m[j]'(by omega)):=List.getElem?_eq_getElem _
 refine⟨j,_,e,by omega,hx,?_⟩
 unfold znK
 rw [e,Int.toNat_natCast,hx]
 rfl
theorem uniOk_on {l:List Ter} {m:List Knd} {W H:Int} {lt:List Int} {u:Uni} (h:uniOk l m W H lt u=true) (ha:u.a ≠ -1):onI W H u.a=true:=by
 simp only [uniOk,Bool.and_eq_true,Bool.or_eq_true,decide_eq_true_iff] at h
 rcases h.2 with h | h
 ·exact absurd h ha
 ·exact h.1.2
theorem ownN_bd {l:List Ter} {m:List Knd} {W H:Int} {lt:List Int}:∀ {us:List Uni},(∀ u ∈ us,uniOk l m W H lt u=true)→∀ i,-1≤ownN us i∧ownN us i≤1
 | [],_,i=>by simp [ownN]
 | u :: us,h,i=>by
  rw [ownN]
  have h1:=(uniOk_side (h u (by simp))).1
  have h2:=ownN_bd (us:=us) (fun v hv=>h v (by simp [hv])) i
  split <;> omega
end Go.Proofs.YtacgknllagdkoaaGreatDoor
