import Derived.Test.YtgefinicjphmpaaGreatDoorSuX
namespace Go.Proofs.YtgefinicjphmpaaGreatDoor
open Go.RowKit
def wayU (l:List Ter) (m:List Knd) (lt lr ld:List Int) (W:Int) (us:List Uni) (H:Int) (ls:List Int) (z:Uni):List Nat:=wayN (fun j=>pasB l m lt lr ld W us z.s z.k.toNat j) W H (srcN ls) lt.length z.a.toNat
def supU (l:List Ter) (m:List Knd) (lt lr ld:List Int) (W:Int) (us:List Uni) (H d:Int) (ls:List Int) (z:Uni):Bool:=decide (z.a ≠ -1) && insB (wayU l m lt lr ld W us H ls z).length d
theorem bl_nil {f:Nat→Bool}:(fun j:Nat=>!hasB [] (j:Int) && f j)=f:=funext fun j=>by simp [hasB]
theorem okx_eq {r:Rul} {W H:Int} {lt lr ld:List Int} {T Z:Int} {us:List Uni} {un:Int} {S:Bool} :
    (inB un us.length && (((brdOk r W H lt lr ld && staOk r W H lt T Z us) && spB 0 1 (unN us un).s) && S))=(((brdOk r W H lt lr ld && staOk r W H lt T Z us) && inB un us.length) && S):=by
  cases hi:inB un us.length
  · simp
  · cases hs:staOk r W H lt T Z us
    · simp
    · obtain ⟨k0,rfl,_,hk1⟩:=unN_of (us:=us) (n:=un) hi
      have h1:=(uniOk_side ((staOk_parts hs).2.2.1 _ (List.mem_of_getElem? hk1))).1
      have h2:spB 0 1 (unN us (k0:Int)).s=true:=by
        simp only [spB,Bool.and_eq_true,decide_eq_true_iff]
        omega
      rw [h2]
      simp
/-- What is known of a unit of a valid state. -/
theorem uni_known {l:List Ter} {m:List Knd} {a b c d e:Int} {W H:Int} {lt:List Int} {T Z:Int} {us:List Uni} {un:Int} (hst:staOk ⟨l,m,a,b,c,d,e⟩ W H lt T Z us=true) (hlen:(lt.length:Int)=W * H) (hi:inB un us.length=true) :
    ∃ (zs:Int) (k:Nat) (za zt:Int),unN us un=⟨zs,(k:Int),za,zt⟩∧(zs=0 ∨ zs=1)∧k < m.length∧(za=-1 ∨ (0 ≤ za∧za < lt.length)):=by
  obtain ⟨k0,rfl,_,hk1⟩:=unN_of (us:=us) (n:=un) hi
  have hu:=(staOk_parts hst).2.2.1 _ (List.mem_of_getElem? hk1)
  obtain ⟨h1,h2,_,h4⟩:=uniOk_side hu
  obtain ⟨j,_,h5,h6,_,_⟩:=uniOk_kind hu
  have h7:(unN us (k0:Int)).a=-1 ∨ (0 ≤ (unN us (k0:Int)).a∧(unN us (k0:Int)).a < lt.length):=by
    by_cases ha:(unN us (k0:Int)).a=-1
    · exact .inl ha
    · obtain ⟨g1,g2⟩:=onI_true (uniOk_on hu ha)
      exact .inr ⟨g1,by omega⟩
  generalize unN us (k0:Int)=z at h1 h2 h4 h5 h6 h7
  obtain ⟨zs,zk,za,zt⟩:=z
  simp only at h1 h5 h7
  subst h5
  exact ⟨zs,j,za,zt,rfl,h1,h6,h7⟩
end Go.Proofs.YtgefinicjphmpaaGreatDoor
