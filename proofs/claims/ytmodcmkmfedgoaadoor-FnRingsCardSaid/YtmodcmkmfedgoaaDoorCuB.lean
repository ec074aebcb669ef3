/-
  The reference's drawing cursor, told by a bound on its place alone: what it draws lies within bounds, its own block alone is written; what else the call makes of its own stands beside it.
-/
import Derived.Test.YtmodcmkmfedgoaaDoorCurHex
import Derived.Test.YtmodcmkmfedgoaaDoorInts
namespace Go.Proofs.YtmodcmkmfedgoaaDoor
open Go.RowKit

/-- A cursor in block g, its bytes below base too, at most K places on. -/
def Cu (w : World) (base g K : Nat) : Prop :=
  ∃ (A : Option Addr) (n c p : Nat), CurAt w g A n c p ∧ RdBy w A n ∧ n ≤ 9223372036854775807 ∧ p ≤ K ∧ g < base ∧ (0 < n → ∀ a, A = some a → a.block ≠ g ∧ a.block < base)
theorem Cu.le {w : World} {base g K K' : Nat} (h : Cu w base g K) (hK : K ≤ K') : Cu w base g K' := by
  obtain ⟨A, n, c, p, h1, h2, h3, h4, h5⟩ := h
  exact ⟨A, n, c, p, h1, h2, h3, by omega, h5⟩
theorem Cu.up {w : World} {base base' g K : Nat} (h : Cu w base g K) (hb : base ≤ base') : Cu w base' g K := by
  obtain ⟨A, n, c, p, h1, h2, h3, h4, h5, h6⟩ := h
  exact ⟨A, n, c, p, h1, h2, h3, h4, by omega, fun h0 a ha => ⟨(h6 h0 a ha).1, by have := (h6 h0 a ha).2; omega⟩⟩
theorem Cu.lt {w : World} {base g K : Nat} (h : Cu w base g K) : g < base := by
  obtain ⟨A, n, c, p, h1, h2, h3, h4, h5, _⟩ := h
  exact h5
theorem Cu.own {w w' : World} {base g K : Nat} {row : Option Nat} (h : Cu w base g K) (k : w.grownBy w' row) (hr : ∀ r, row = some r → base ≤ r) : Cu w' base g K := by
  obtain ⟨A, n, c, p, ⟨s, sb, c0, l1, l2⟩, h2, h3, h4, h5, h6⟩ := h
  have ne : some g ≠ row := fun e => by have := hr g e.symm; omega
  refine ⟨A, n, c, p, ⟨s, sb, k.cell c0 ne, ⟨k.cell l1.1 ne, grown_frozen k l1.1 ne l1.2⟩, ⟨k.cell l2.1 ne, grown_frozen k l2.1 ne l2.2⟩⟩, fun h0 => ?_, h3, h4, h5, h6⟩
  obtain ⟨gb, ob, rfl, hx⟩ := h2 h0
  refine ⟨gb, ob, rfl, fun i hi => ?_⟩
  obtain ⟨x, x0, x1, cx⟩ := hx i hi
  exact ⟨x, x0, x1, k.cell cx (fun e => by have := hr gb e.symm; have := (h6 h0 _ rfl).2; simp only at this; omega)⟩
theorem Cu.keep {w w' : World} {base g K : Nat} (h : Cu w base g K) (k : Kp w w') : Cu w' base g K := by
  obtain ⟨A, n, c, p, h1, h2, h3⟩ := h
  exact ⟨A, n, c, p, h1.keep k, h2.keep k, h3⟩
/-- Behind w0 all is as it was but the cursor's block: a draw, a write into what is new. -/
theorem gw_own {w0 w w' : World} {g : Nat} {row : Option Nat} (h : w0.grownBy w (some g)) (k : w.grownBy w' row) (hr : ∀ r, row = some r → w0.heap.size ≤ r) : w0.grownBy w' (some g) :=
  ⟨k.os.trans h.os, k.tape.trans h.tape, k.output.trans h.output, Nat.le_trans h.size k.size, fun i hi hne => (k.block i (Nat.lt_of_lt_of_le hi h.size) (fun e => by have := hr i e.symm; omega)).trans (h.block i hi hne)⟩
theorem OwnI.draw {w w' : World} {base g : Nat} {v : Value} {l : List Int} (h : OwnI w base v l) (k : w.grownBy w' (some g)) (hg : g < base) : OwnI w' base v l :=
  World.ownsRow.kept h k (by
    cases hv : v.ownBlock
    · exact .inl rfl
    · rename_i j
      refine .inr fun e => ?_
      have h1 := (World.ownsRow.lt h j hv).1
      obtain rfl := Option.some.inj e
      omega)

theorem pick_low (g : Nat) (m : Int) (w : World) (hm : m ≤ 1) :
    Calls Tryd.prog 19 #[.pointer (some ⟨g, 0, none⟩), .int .i64 m] w fun e w' => e = .returned (.int .i64 0) ∧ w = w' := by
  go_enter Tryd.func19, Tryd.ntmps19
  go_wp2_with fail
  go_ret
  exact ⟨rfl, rfl⟩
/-- A number drawn. -/
def PickC (base g K : Nat) (lo hi : Int) (w : World) (e : Ending) (w' : World) : Prop :=
  ∃ x : Int, e = .returned (.int .i64 x) ∧ lo ≤ x ∧ x ≤ hi ∧ Cu w' base g (K + 1) ∧ w.grownBy w' (some g)
theorem pickC (base g K : Nat) (m : Int) (w : World) (h : Cu w base g K) (hK : K ≤ 90000) (m1 : 1 ≤ m) (m2 : m ≤ 200) :
    Calls Tryd.prog 19 #[.pointer (some ⟨g, 0, none⟩), .int .i64 m] w (PickC base g K 0 (m - 1) w) := by
  by_cases hm : m = 1
  · subst hm
    refine (pick_low g 1 w (by omega)).mono ?_
    rintro e w' ⟨rfl, rfl⟩
    exact ⟨0, rfl, by omega, by omega, h.le (by omega), World.grownBy.refl w _⟩
  · obtain ⟨A, n, c, p, h1, h2, h3, h4, h5, h6⟩ := h
    refine (pick_any g A n c p m w h1 h2 (by omega) h3 (by omega) m2).mono ?_
    rintro e w' ⟨x, rfl, x0, x1, ⟨p', hp', cu⟩, hg⟩
    exact ⟨x, rfl, x0, x1, ⟨A, n, c, p', cu, h2.grown hg (fun h0 a ha => (h6 h0 a ha).1), h3, by omega, h5, h6⟩, hg⟩
def OneC (base g K : Nat) (w : World) (e : Ending) (w' : World) : Prop :=
  ∃ b : Bool, e = .returned (.bool b) ∧ Cu w' base g (K + 1) ∧ w.grownBy w' (some g)
theorem oneC (base g K : Nat) (m : Int) (w : World) (h : Cu w base g K) (hK : K ≤ 90000) (m1 : 2 ≤ m) (m2 : m ≤ 200) :
    Calls Tryd.prog 38 #[.pointer (some ⟨g, 0, none⟩), .int .i64 m] w (OneC base g K w) := by
  obtain ⟨A, n, c, p, h1, h2, h3, h4, h5, h6⟩ := h
  refine (one_any g A n c p m w h1 h2 (by omega) h3 m1 m2).mono ?_
  rintro e w' ⟨b, rfl, ⟨p', hp', cu⟩, hg⟩
  exact ⟨b, rfl, ⟨A, n, c, p', cu, h2.grown hg (fun h0 a ha => (h6 h0 a ha).1), h3, by omega, h5, h6⟩, hg⟩
theorem amongC (base g K : Nat) (gl ol ln cl : Nat) (lo hi : Int) (w : World) (h : Cu w base g K) (hK : K ≤ 90000) (l1 : 2 ≤ ln) (l2 : ln ≤ 200)
    (hl : ∀ i : Nat, i < ln → ∃ x : Int, lo ≤ x ∧ x ≤ hi ∧ w.cell? ⟨gl, ol + i, none⟩ = some (.int .i64 x)) (hne : gl ≠ g) :
    Calls Tryd.prog 32 #[.pointer (some ⟨g, 0, none⟩), .slice (some ⟨gl, ol, none⟩) ln cl] w (PickC base g K lo hi w) := by
  obtain ⟨A, n, c, p, h1, h2, h3, h4, h5, h6⟩ := h
  refine (among_any g A n c p gl ol ln cl lo hi w h1 h2 (by omega) h3 l1 l2 hl hne).mono ?_
  rintro e w' ⟨x, rfl, x0, x1, ⟨p', hp', cu⟩, hg⟩
  exact ⟨x, rfl, x0, x1, ⟨A, n, c, p', cu, h2.grown hg (fun h0 a ha => (h6 h0 a ha).1), h3, by omega, h5, h6⟩, hg⟩

end Go.Proofs.YtmodcmkmfedgoaaDoor
