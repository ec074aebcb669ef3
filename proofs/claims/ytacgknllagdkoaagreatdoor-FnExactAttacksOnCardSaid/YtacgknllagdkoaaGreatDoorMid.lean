/-
  A struct of many cells is loaded from a box and stored into one as a single step: laws at the head of a region's list of operations, for ranges of cells.
-/
import Derived.Deep.MidRow
import Derived.Test.YtacgknllagdkoaaGreatDoorQa
import Derived.Test.YtacgknllagdkoaaGreatDoorQa
namespace Go.Proofs.YtacgknllagdkoaaGreatDoor
open Go.RowKit

theorem load_m {ops : Array Oper} {rest : List Oper} {dst : Option Tmp} {ty' : TypeId} {pos : String} {af : Array Edge} {g : Option (Nat × Bool)} {a : Act} {w : World} {Q : Exit → Act → World → Prop} {ty : TypeId} {x : Operand}
    {b o : Nat} {cs : List Value} {d : TypeDesc} (hc : w.rangeAt b o cs)
    (hu : Tryz.prog.underlying ty = some d) (hi : (Tryz.prog.info? ty).map (·.size) = some cs.length) (hd : d.isRow = true)
    (hw : Region.wanted ⟨dst, .load ty x, ty', pos, af, g⟩ (yielded ops a.tmps) = true) (hx : a.eval x = .pointer (some ⟨b, o, none⟩))
    (h : wpList Tryz.prog ops Q rest (a.put dst (.agg cs.toArray)) w) : wpList Tryz.prog ops Q (⟨dst, .load ty x, ty', pos, af, g⟩ :: rest) a w :=
  wpList_step fun K hK => by
    rw [if_pos hw]
    exact wp_load_mid ty x rfl b o hx cs d hc hu hd hi (hK _ _ h)
theorem store_m {ops : Array Oper} {rest : List Oper} {dst : Option Tmp} {ty' : TypeId} {pos : String} {af : Array Edge} {g : Option (Nat × Bool)} {a : Act} {w : World} {Q : Exit → Act → World → Prop} {ty : TypeId} {x y : Operand}
    {b o : Nat} {cells : Array Value} (ht : w.there b o cells.size) (hi : (Tryz.prog.info? ty).map (·.size) = some cells.size) (h1 : cells.all (·.oneCell') = true)
    (hw : Region.wanted ⟨dst, .store ty x y, ty', pos, af, g⟩ (yielded ops a.tmps) = true) (hx : a.eval x = .pointer (some ⟨b, o, none⟩)) (hy : a.eval y = .agg cells)
    (h : wpList Tryz.prog ops Q rest (a.put dst undef) (w.setCells b o cells.toList)) : wpList Tryz.prog ops Q (⟨dst, .store ty x y, ty', pos, af, g⟩ :: rest) a w :=
  wpList_step fun K hK => by
    rw [if_pos hw]
    exact wp_store_mid ty x y rfl b o cells hx hy ht hi h1 (hK _ _ h)
theorem there_fresh (w : World) (cs : List Value) (T : TypeId) : (w.alloc (.cells cs.toArray T)).there w.heap.size 0 cs.length := fun k hk => by
  rw [Nat.zero_add]
  exact ⟨by simp [go_sem, hk], by simp [go_sem]⟩
theorem range_keep {w w' : World} {b o : Nat} {cs : List Value} (h : w.rangeAt b o cs) (k : Kp w w') : w'.rangeAt b o cs := fun j v hv => k.cell (h j v hv)
theorem range_at {w : World} {b : Nat} {cs : List Value} (h : w.rangeAt b 0 cs) (j : Nat) (v : Value) (hv : cs[j]? = some v) : w.cell? ⟨b, j, none⟩ = some v := by
  have := h j v hv
  rwa [Nat.zero_add] at this
theorem range_fresh (w : World) (cs : List Value) (T : TypeId) : (w.alloc (.cells cs.toArray T)).rangeAt w.heap.size 0 cs := fun j v hv => by
  rw [Nat.zero_add]
  simpa [go_sem] using hv
theorem range_part {w : World} {b : Nat} {cs : List Value} (h : w.rangeAt b 0 cs) (o n : Nat) : w.rangeAt b o ((cs.drop o).take n) := fun j v hv => by
  rw [List.getElem?_take] at hv
  split at hv
  · rw [List.getElem?_drop] at hv
    have := h (o + j) v hv
    rwa [Nat.zero_add] at this
  · cases hv
theorem kp_cells {w : World} {B : Nat} (hb : w.heap.size ≤ B) : ∀ (vs : List Value) (o : Nat) (W : World), Kp w W → Kp w (W.setCells B o vs)
  | [], _, _, h => h
  | v :: vs, o, W, h => kp_cells hb vs (o + 1) (W.setCell ⟨B, o, none⟩ v) (h.setCell hb v)

end Go.Proofs.YtacgknllagdkoaaGreatDoor
