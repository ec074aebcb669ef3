/-
  Worlds that differ in some blocks alone: below a number, and from another one on, all is as it was.
-/
import Derived.Test.YtgeophllbmjjfaaDoorRowB
namespace Go.Proofs.YtgeophllbmjjfaaDoor
open Go.RowKit

/-- Below lo, and from hi on, all that lay there is as it was. -/
def Mk (lo hi : Nat) (w w' : World) : Prop := Below lo w w' ∧ ∀ b, hi ≤ b → b < w.heap.size → w'.heap[b]? = w.heap[b]?
theorem Mk.refl (lo hi : Nat) (w : World) : Mk lo hi w w := ⟨Below.refl _ _, fun _ _ _ => rfl⟩
theorem Mk.trans {lo hi : Nat} {a b c : World} (h : Mk lo hi a b) (k : Mk lo hi b c) : Mk lo hi a c :=
  ⟨Below.trans h.1 k.1, fun n hn hs => (k.2 n hn (Nat.lt_of_lt_of_le hs h.1.size)).trans (h.2 n hn hs)⟩
theorem Mk.of_kp {lo hi : Nat} {w w' : World} (k : Kp w w') (h : lo ≤ w.heap.size) : Mk lo hi w w' := ⟨Below.mono k h, fun b _ hb => k.block b hb⟩
theorem Mk.set {lo hi : Nat} {a w : World} (h : Mk lo hi a w) {b j : Nat} (h1 : lo ≤ b) (h2 : b < hi) (u : Value) : Mk lo hi a (w.setCell ⟨b, j, none⟩ u) :=
  ⟨Below.setCell h.1 h1 u, fun n hn hs => (Below.heap_setCell w ⟨b, j, none⟩ u n (by simp only; omega)).trans (h.2 n hn hs)⟩
theorem Mk.grown {lo hi : Nat} {a w w' : World} {row : Option Nat} (h : Mk lo hi a w) (g : w.grownBy w' row) (hs : lo ≤ w.heap.size) (hr : ∀ k, row = some k → lo ≤ k ∧ k < hi) : Mk lo hi a w' :=
  ⟨Below.grown h.1 g hs (fun k e => (hr k e).1), fun n hn hz => ((let ⟨_, _, _, _, gb⟩ := g; gb) n (Nat.lt_of_lt_of_le hz h.1.size) (fun e => by have := (hr n e.symm).2; omega)).trans (h.2 n hn hz)⟩
theorem Mk.kp {lo hi : Nat} {w w' W0 : World} (h : Mk lo hi w w') (k : Kp W0 w) (hb : W0.heap.size ≤ lo) : Kp W0 w' := Below.trans k (Below.mono h.1 hb)
theorem Mk.own {lo hi base sz n : Nat} {w w' : World} {e : TypeId} {v : Value} {xs : List Value} (h : Mk lo hi w w') (o : w.ownsRow base e sz v n xs) (hb : ∀ g, v.ownBlock = some g → hi ≤ g) : w'.ownsRow base e sz v n xs := by
  obtain ⟨hl, hv⟩ := o
  refine ⟨hl, ?_⟩
  rcases hv with h0 | ⟨g, cap, cur, rfl, h1, h2, h3⟩
  · exact .inl h0
  · have hg : g < w.heap.size := (Array.getElem?_eq_some_iff.1 h2).1
    exact .inr ⟨g, cap, cur, rfl, h1, by rw [h.2 g (hb g rfl) hg]; exact h2, h3⟩

end Go.Proofs.YtgeophllbmjjfaaDoor
