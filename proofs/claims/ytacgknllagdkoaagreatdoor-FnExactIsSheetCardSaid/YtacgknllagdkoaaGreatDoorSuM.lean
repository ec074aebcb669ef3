/-
 Supply as plain data: blocked hexes, hexes that can be used, neighbours in two orders, the search of both sides, who is in supply. No program is looked into.
-/
import Derived.Test.YtacgknllagdkoaaGreatDoorSuB
import Derived.Test.YtacgknllagdkoaaGreatDoorZnM
import Derived.Test.YtacgknllagdkoaaGreatDoorQa
import Derived.Test.YtacgknllagdkoaaGreatDoorQa
namespace Go.Proofs.YtacgknllagdkoaaGreatDoor
open Go.RowKit
/-- A hex is blocked for a side. -/
def ints (l:List Nat):List Int:=l.map fun k:Nat=>(k:Int)
theorem ints_len (l:List Nat):(ints l).length=l.length:=by simp [ints]
theorem ints_at {l:List Nat} {j k:Nat} (h:l[j]?=some k):(ints l)[j]?=some (k:Int):=by simp [ints,h]
theorem ints_append (l m:List Nat):ints (l++m)=ints l++ints m:=by simp [ints]
theorem ints_toNat {l:List Int} (h:∀ x ∈ l,0≤x):ints (l.map Int.toNat)=l:=by
 unfold ints
 rw [List.map_map]
 conv=>rhs;rw [← List.map_id l]
 exact List.map_congr_left fun x hx=>by have:=h x hx;simp;omega
/-- The neighbours of a hex in the first n directions. -/
def nbT (W H:Int) (x:Nat):Nat→List Nat
 | 0=>[]
 | n+1=>if nbM W H x n=true then nbT W H x n++[(nbI W x n).toNat] else nbT W H x n
theorem nbT_yes {W H:Int} {x n:Nat} (h:nbM W H x n=true):nbT W H x (n+1)=nbT W H x n++[(nbI W x n).toNat]:=if_pos h
theorem nbTI_yes {W H:Int} {x n:Nat} (h:nbM W H x n=true):ints (nbT W H x (n+1))=ints (nbT W H x n)++[nbI W x n]:=by
 rw [nbT_yes h,ints_append]
 have h1:0≤nbI W x n:=(idx_bd h).1
 simp [ints]
 omega
theorem nbT_no {W H:Int} {x n:Nat} (h:nbM W H x n=false):nbT W H x (n+1)=nbT W H x n:=if_neg (by simp [h])
theorem nbT_mem {W H:Int} {x k:Nat}:∀ {n:Nat},k ∈ nbT W H x n ↔ ∃ d:Nat,d<n∧nbM W H x d=true∧k=(nbI W x d).toNat
 | 0=>by simp [nbT]
 | n+1=>by
  unfold nbT
  have ih:=@nbT_mem W H x k n
  split
  ·rename_i h
   rw [List.mem_append,ih]
   constructor
   ·rintro (⟨d,hd,h1,h2⟩ | h1)
    ·exact⟨d,by omega,h1,h2⟩
    ·exact⟨n,by omega,h,by simpa using h1⟩
   ·rintro ⟨d,hd,h1,h2⟩
    by_cases hn:d=n
    ·subst hn;exact .inr (by simp [h2])
    ·exact .inl ⟨d,by omega,h1,h2⟩
  ·rename_i h
   rw [ih]
   constructor
   ·rintro ⟨d,hd,h1,h2⟩
    exact⟨d,by omega,h1,h2⟩
   ·rintro ⟨d,hd,h1,h2⟩
    by_cases hn:d=n
    ·subst hn;exact absurd h1 h
    ·exact⟨d,by omega,h1,h2⟩
theorem nbT_len {W H:Int} {x:Nat}:∀ n,(nbT W H x n).length≤n
 | 0=>by simp [nbT]
 | n+1=>by
  have ih:=@nbT_len W H x n
  unfold nbT
  split
  ·rw [List.length_append];simp;omega
  ·omega
theorem nbM_at {W H:Int} {x d:Nat} (h:nbM W H x d=true):0≤nbI W x d∧nbI W x d<W*H:=idx_bd h
/-- The same neighbours, strictly rising. -/
def nbS (W H:Int) (x:Nat):List Nat:=((ints (nbT W H x 6)).mergeSort fun a b=>decide (a≤b)).map Int.toNat
theorem nbS_ints (W H:Int) (x:Nat):ints (nbS W H x)=(ints (nbT W H x 6)).mergeSort fun a b=>decide (a≤b) :=
 ints_toNat fun y hy=>by
  have:=List.mem_mergeSort.1 hy
  obtain⟨k,_,rfl⟩:=List.mem_map.1 this
  omega
theorem nbS_mem {W H:Int} {x k:Nat}:k ∈ nbS W H x ↔ k ∈ nbT W H x 6:=by
 unfold nbS ints
 rw [List.mem_map]
 constructor
 ·rintro ⟨a,ha,rfl⟩
  obtain⟨j,hj,rfl⟩:=List.mem_map.1 (List.mem_mergeSort.1 ha)
  simpa using hj
 ·intro h
  exact⟨(k:Int),List.mem_mergeSort.2 (List.mem_map.2 ⟨k,h,rfl⟩),by simp⟩
theorem nbS_len (W H:Int) (x:Nat):(nbS W H x).length≤6:=by
 have h:=nbT_len (W:=W) (H:=H) (x:=x) 6
 unfold nbS
 rw [List.length_map,List.length_mergeSort,ints_len]
 exact h
/-- What is known of a queue under way. -/
structure Srq (N:Nat) (Q:List (Nat × Nat)):Prop where
 nd:keysNodup Q
 bd:∀ e ∈ Q,e.1<N∧1≤e.2∧e.2≤101
end Go.Proofs.YtacgknllagdkoaaGreatDoor
