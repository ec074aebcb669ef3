/-
 Zones of control as plain data: which unit exerts control on a hex, zones, allowed steps, who controls a hex. No program is looked into.
-/
import Derived.Test.YtacgknllagdkoaaGreatDoorQa
import Derived.Test.YtacgknllagdkoaaGreatDoorQl
import Derived.Test.YtacgknllagdkoaaGreatDoorQm
import Derived.Test.YtacgknllagdkoaaGreatDoorQa
namespace Go.Proofs.YtacgknllagdkoaaGreatDoor
open Go.RowKit
/-- The unit with a number. -/
def unN (us:List Uni) (n:Int):Uni:=(us[n.toNat]?).getD ⟨0,0,0,0⟩
theorem unN_of {us:List Uni} {n:Int} (h:inB n us.length=true):∃ k:Nat,n=k∧k<us.length∧us[k]?=some (unN us n):=by
 simp only [inB,Bool.and_eq_true,decide_eq_true_iff] at h
 obtain⟨k,rfl⟩:∃ k:Nat,n=k:=⟨n.toNat,by omega⟩
 have hk:k<us.length:=by omega
 refine⟨k,rfl,hk,?_⟩
 unfold unN
 rw [Int.toNat_natCast,List.getElem?_eq_getElem hk]
 rfl
end Go.Proofs.YtacgknllagdkoaaGreatDoor
