/-
  Small facts on slices of hexes that a call owns in blocks from a number on.
-/
import Derived.Test.YtmodcmkmfedgoaaDoorRowB
namespace Go.Proofs.YtmodcmkmfedgoaaDoor
open Go.RowKit

theorem OwnH.base {w : World} {base b : Nat} {v : Value} {l : List (Int × Int)} (h : OwnH w base v l) (hb : b ≤ base) : OwnH w b v l := by
  refine ⟨h.1, ?_⟩
  rcases h.2 with h | ⟨g, cap, cur, h1, h2, h3⟩
  · exact .inl h
  · exact .inr ⟨g, cap, cur, h1, by omega, h3⟩
theorem OwnH.not {w : World} {base : Nat} {v : Value} {l : List (Int × Int)} (h : OwnH w base v l) {g : Nat} (hg : g < base) : some g ≠ v.ownBlock := fun e => by
  have := (World.ownsRow.lt h g e.symm).1
  omega
theorem OwnH.cell {w : World} {base : Nat} {v : Value} {l l' : List (Int × Int)} (h : OwnH w base v l) (e : l = l') : OwnH w base v l' := e ▸ h

theorem two_new_at {w : World} {b : Nat} (hb : b = w.heap.size) (x y : Value) (t : TypeId) : ∀ j u, [x, y][j]? = some u → (w.alloc (.cells #[x, y] t)).cell? ((⟨b, 0, none⟩ : Addr).add j) = some u := by
  subst hb
  exact two_new w x y t

end Go.Proofs.YtmodcmkmfedgoaaDoor
