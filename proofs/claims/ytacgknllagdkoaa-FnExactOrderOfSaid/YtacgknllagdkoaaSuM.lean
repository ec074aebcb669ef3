/-
  Supply as plain data: blocked hexes, hexes that can be used, neighbours in two orders, the search of both sides, who is in supply. No program is looked into.
-/
import Derived.Test.YtacgknllagdkoaaSuB
import Derived.Test.YtacgknllagdkoaaBrdM
import Derived.Test.YtacgknllagdkoaaUnO
import Derived.Test.YtacgknllagdkoaaHex
import Derived.LoopTactic
import Derived.IntWalk
import Derived.Test.YtacgknllagdkoaaDirs
import Derived.Test.YtacgknllagdkoaaFar
import Derived.RegionTactic
import Derived.BigRegion
import Derived.Deep.RegionHeld3
namespace Go.Proofs.Ytacgknllagdkoaa
open Go.RowKit

/-- A hex is blocked for a side. -/
def ints (l : List Nat) : List Int := l.map fun k : Nat => (k : Int)
theorem ints_at {l : List Nat} {j k : Nat} (h : l[j]? = some k) : (ints l)[j]? = some (k : Int) := by simp [ints, h]
/-- What is known of a queue under way. -/
structure Srq (N : Nat) (Q : List (Nat × Nat)) : Prop where
  nd : keysNodup Q
  bd : ∀ e ∈ Q, e.1 < N ∧ 1 ≤ e.2 ∧ e.2 ≤ 101
theorem Srq.nil (N : Nat) : Srq N [] := ⟨by simp [keysNodup], fun e he => by cases he⟩
theorem Srq.len {N : Nat} {Q : List (Nat × Nat)} (h : Srq N Q) : Q.length ≤ N := by
  have h1 := nodup_le h.nd (N := N) (fun k hk => by
    obtain ⟨e, he, rfl⟩ := List.mem_map.1 hk
    exact (h.bd e he).1)
  simpa using h1
theorem Srq.add {N : Nat} {Q : List (Nat × Nat)} (h : Srq N Q) {k p : Nat} (hk : k < N) (hp : 1 ≤ p) (hp2 : p ≤ 101) (hn : ∀ e ∈ Q, e.1 ≠ k) : Srq N (Q ++ [(k, p)]) := by
  refine ⟨?_, fun e he => ?_⟩
  · have h1 := h.nd
    unfold keysNodup at h1 ⊢
    rw [List.map_append, List.nodup_append]
    refine ⟨h1, by simp, fun a ha b hb e => ?_⟩
    obtain ⟨x, hx, rfl⟩ := List.mem_map.1 ha
    simp only [List.map_cons, List.map_nil, List.mem_cons, List.not_mem_nil, or_false] at hb
    exact hn x hx (by rw [e, hb])
  · rcases List.mem_append.1 he with he | he
    · exact h.bd e he
    · have : e = (k, p) := by simpa using he
      subst this
      exact ⟨hk, hp, hp2⟩
end Go.Proofs.Ytacgknllagdkoaa
