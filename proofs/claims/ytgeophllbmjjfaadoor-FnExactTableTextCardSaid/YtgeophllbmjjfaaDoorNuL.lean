/-
  The program's line of a name and numbers.
-/
import Derived.Test.YtgeophllbmjjfaaDoorSpt
import Derived.Test.YtgeophllbmjjfaaDoorInts
import Derived.Maps.AppendAt
namespace Go.Proofs.YtgeophllbmjjfaaDoor
open Go.RowKit

/-- A name and numbers, with a blank before each number. -/
def numsT (l : List Int) : List UInt8 := l.flatMap fun n => 32 :: Lib.itoa n
theorem numsT_join (nm : List UInt8) (l : List Int) : Lib.join (nm :: l.map Lib.itoa) [32] = nm ++ numsT l := by
  rw [Lib.join_cons]
  congr 1
  induction l with
  | nil => rfl
  | cons x l ih =>
    simp only [Lib.joinTail, numsT, List.map_cons, List.flatten_cons, List.flatMap_cons] at ih ⊢
    rw [ih]
    simp
theorem infoStrN : (Tryd.prog.info? 9).map (fun i => (i.zero, i.size, i.bytes)) = some (some (.string ⟨#[]⟩), 1, 16) := by kernel_rfl
theorem one_str (w : World) (x : Value) (t : TypeId) : ∀ (j : Nat) u, [x][j]? = some u → (w.alloc (.cells #[x] t)).cell? ((⟨w.heap.size, 0, none⟩ : Addr).add j) = some u := by
  intro j u hj
  match j, hj with
  | 0, hj => simp at hj; subst hj; simp [Addr.add]
theorem row_shapeS {w : World} {base n : Nat} {e : TypeId} {v : Value} {xs : List Value} (h : w.ownsRow base e 1 v n xs) (h0 : 0 < n) :
    ∃ g cap, v = .slice (some ⟨g, 0, none⟩) n cap ∧ base ≤ g ∧ g < w.heap.size ∧ n ≤ cap ∧ cap ≤ 9223372036854775807 := by
  have hl := World.ownsRow.lt h
  rcases h.2 with ⟨_, h1⟩ | ⟨g, cap, cur, e1, h2, _, h3, h4, _⟩
  · omega
  · exact ⟨g, cap, e1, h2, (hl g (by rw [e1]; rfl)).2, h3, by unfold maxLen at h4; omega⟩

end Go.Proofs.YtgeophllbmjjfaaDoor
