/-
 Sorting a slice of integers that the call owns: the same slice, its numbers in rising order. Only that slice's block is written. (The shelf's contract of the library's sort, restated.)
-/
import Derived.Test.YtacgknllagdkoaaGreatDoorShelf
import Derived.Test.YtacgknllagdkoaaGreatDoorQa
import Derived.Test.YtacgknllagdkoaaGreatDoorQe
import Derived.Test.YtacgknllagdkoaaGreatDoorQg
import Derived.Test.YtacgknllagdkoaaGreatDoorQa
namespace Go.Proofs.YtacgknllagdkoaaGreatDoor
open Go.RowKit Go.Sort
theorem sort_at {w:World} {n blk:Nat} {f:Array Value→Array Value} {os:Array Obj} {cur:Array Value} {e:TypeId} {fr:Nat × Nat} (hb:w.heap[blk]?=some (.cells cur e fr)) :
  (grow (mapBlock (Go.Sort.ahead w n) blk f) os).heap[blk]?=some (.cells (f cur) e fr):=by
 have hs:blk<w.heap.size:=(Array.getElem?_eq_some_iff.1 hb).1
 have h1:(mapBlock (Go.Sort.ahead w n) blk f).heap[blk]?=some (.cells (f cur) e fr):=by
  unfold mapBlock Go.Sort.ahead
  simp only [Array.getElem?_modify,if_true,hb,Option.map_some,onCells]
 unfold grow
 simp only
 rw [Array.getElem?_append_left (by simpa [mapBlock,Go.Sort.ahead] using hs)]
 exact h1
theorem sort_else {w:World} {n blk k:Nat} {f:Array Value→Array Value} {os:Array Obj} (hk:k<w.heap.size) (hne:k ≠ blk):(grow (mapBlock (Go.Sort.ahead w n) blk f) os).heap[k]?=w.heap[k]?:=by
 unfold grow
 simp only
 rw [Array.getElem?_append_left (by simpa [mapBlock,Go.Sort.ahead] using hk)]
 unfold mapBlock Go.Sort.ahead
 simp only [Array.getElem?_modify]
 rw [if_neg (fun e=>hne e.symm)]
theorem putCells_take (d:List Int) (cur:Array Value) (h:d.length≤cur.size):(putCells (Value.int .i64) 0 d.toArray cur).toList.take d.length=cellsI d:=by
 apply List.ext_getElem?
 intro j
 by_cases hj:j<d.length
 ·rw [List.getElem?_take,if_pos hj]
  have hjc:j<cur.size:=by omega
  simp only [putCells,Array.toList_mapIdx,List.getElem?_mapIdx,cellsI,List.getElem?_map]
  rw [List.getElem?_eq_getElem (by simpa using hjc),List.getElem?_eq_getElem hj]
  simp only [Option.map_some,Nat.zero_le,Nat.zero_add,true_and,Nat.sub_zero,List.size_toArray]
  rw [if_pos hj,getElem!_pos _ j (by simpa using hj)]
  simp
 ·rw [List.getElem?_take,if_neg hj,List.getElem?_eq_none (by simp [cellsI];omega)]
theorem sort_own (v:Value) (l:List Int) (base:Nat) (w:World) (h:OwnI w base v l) (hl:l.length≤1048576) :
  Calls Tryz.prog 192 #[v] w fun e w'=>e=.returned (.tuple #[])∧OwnI w' base v (l.mergeSort fun x y=>decide (x≤y))∧w.grownBy w' v.ownBlock:=by
 have ho:=h
 rcases h.2 with ⟨rfl,h0⟩ | ⟨g,cap,cur,rfl,hb,hg,hc,hm,hs,ht⟩
 ·have e:l=[]:=List.eq_nil_of_length_eq_zero h0
  subst e
  refine(Tryz.slices_Sort_int_none none 0 w).mono ?_
  rintro e w' ⟨rfl,rfl⟩
  exact⟨rfl,by simpa using ho,World.grownBy.refl _ _⟩
 ·have hgw:g<w.heap.size:=(Array.getElem?_eq_some_iff.1 hg).1
  refine(Tryz.slices_Sort_int g 0 cap l w (fun j hj=>?_) hgw (by omega)).mono ?_
  ·have hj':j<l.length:=by simpa using hj
   rw [Nat.zero_add]
   refine⟨?_,ho.frozenAt j⟩
   refine(World.ownsRow.cellAt ho j (by omega)).trans ?_
   rw [getElem!_pos _ j hj]
   simp [cellsI,hj']
  ·rintro e w' ⟨rfl,n,os,rfl⟩
   obtain⟨S,hS⟩:∃ S,S=l.mergeSort fun x y=>decide (x≤y):=⟨_,rfl⟩
   have hsl:S.length=l.length:=by rw [hS];exact List.length_mergeSort l
   rw [← hS]
   unfold putRow
   obtain⟨c2,hc2⟩:∃ c2,c2=putCells (Value.int .i64) 0 S.toArray cur:=⟨_,rfl⟩
   have hh:=sort_at (n:=n) (f:=putCells (Value.int .i64) 0 S.toArray) (os:=os) hg
   rw [← hc2] at hh
   have hz2:c2.size=cap*1:=by rw [hc2];simp [putCells,hs]
   have ht2:c2.toList.take (S.length*1)=cellsI S:=by
    rw [Nat.mul_one,hc2]
    exact putCells_take S cur (by omega)
   refine⟨rfl,⟨by simp [cellsI],.inr ⟨g,cap,c2,by rw [hsl],hb,hh,by omega,hm,hz2,ht2⟩⟩,⟨rfl,rfl,rfl,?_,fun k hk hne=>sort_else hk (fun e=>hne (by rw [e];rfl))⟩⟩
   simp [grow,mapBlock,Go.Sort.ahead]
end Go.Proofs.YtacgknllagdkoaaGreatDoor
