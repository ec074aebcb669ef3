/-
  Hexes drawn by the reference's cursor: their coordinates are within 41; nothing that was there is changed but the cursor.
-/
import Derived.Test.YtmhkjcgdjoeldaaDoorCur
namespace Go.Proofs.YtmhkjcgdjoeldaaDoor
open Go.RowKit

theorem CurAt.keep {w w' : World} {g : Nat} {A : Option Addr} {n c p : Nat} (h : CurAt w g A n c p) (k : Kp w w') : CurAt w' g A n c p := by
  obtain ⟨s, sb, c0, l1, l2⟩ := h
  exact ⟨s, sb, k.cell c0, k.liv l1, k.liv l2⟩
theorem CurAt.lt {w : World} {g : Nat} {A : Option Addr} {n c p : Nat} (h : CurAt w g A n c p) : g < w.heap.size := by
  obtain ⟨s, sb, c0, l1, l2⟩ := h
  exact cell_lt c0
theorem grown_alloc {w w' : World} {row : Option Nat} (h : w.grownBy w' row) (o : Obj) : w.grownBy (w'.alloc o) row :=
  ⟨h.os, h.tape, h.output, Nat.le_trans h.size (by simp), fun i hi hne => (Below.heap_alloc w' o i (Nat.lt_of_lt_of_le hi h.size)).trans (h.block i hi hne)⟩
theorem grown_new {w w' : World} {row : Option Nat} (h : w.grownBy w' row) {p : Addr} (hp : w.heap.size ≤ p.block) (u : Value) : w.grownBy (w'.setCell p u) row :=
  ⟨h.os, h.tape, h.output, by simpa [World.setCell] using h.size, fun i hi hne => (Below.heap_setCell w' p u i (by intro e; omega)).trans (h.block i hi hne)⟩
theorem grown_keep {w w' w'' : World} {row : Option Nat} (h : w.grownBy w' row) (k : Kp w' w'') : w.grownBy w'' row :=
  ⟨k.os.trans h.os, k.tape.trans h.tape, k.output.trans h.output, Nat.le_trans h.size k.size, fun i hi hne => (k.block i (Nat.lt_of_lt_of_le hi h.size)).trans (h.block i hi hne)⟩
theorem CurAt.far {w : World} {g b j : Nat} {A : Option Addr} {n c p : Nat} (h : CurAt w g A n c p) (hne : g ≠ b) (u : Value) : CurAt (w.setCell ⟨b, j, none⟩ u) g A n c p := by
  obtain ⟨s, sb, c0, l1, l2⟩ := h
  have hg := grown_set w b j u
  have ne : some g ≠ some b := fun e => hne (Option.some.inj e)
  exact ⟨s, sb, hg.cell c0 ne, ⟨hg.cell l1.1 ne, grown_frozen hg l1.1 ne l1.2⟩, ⟨hg.cell l2.1 ne, grown_frozen hg l2.1 ne l2.2⟩⟩
/-- Two cells of a box that can be written. -/
abbrev Live2 (w : World) (b : Nat) (u0 u1 : Value) : Prop := (w.cell? ⟨b, 0, none⟩ = some u0 ∧ w.frozen? ⟨b, 0, none⟩ = false) ∧ (w.cell? ⟨b, 1, none⟩ = some u1 ∧ w.frozen? ⟨b, 1, none⟩ = false)
theorem live2_grown {w w' : World} {g b : Nat} {u0 u1 : Value} (hg : w.grownBy w' (some g)) (hne : b ≠ g) (h : Live2 w b u0 u1) : Live2 w' b u0 u1 :=
  have ne : some b ≠ some g := fun e => hne (Option.some.inj e)
  ⟨⟨hg.cell h.1.1 ne, grown_frozen hg h.1.1 ne h.1.2⟩, ⟨hg.cell h.2.1 ne, grown_frozen hg h.2.1 ne h.2.2⟩⟩
theorem live2_kp {w w' : World} {b : Nat} {u0 u1 : Value} (k : Kp w w') (h : Live2 w b u0 u1) : Live2 w' b u0 u1 := ⟨k.liv h.1, k.liv h.2⟩

/-- A hex drawn. -/
def HexPost (g : Nat) (A : Option Addr) (n c p k : Nat) (w : World) (e : Ending) (w' : World) : Prop :=
  ∃ q r : Int, e = .returned (hx q r) ∧ (-41 ≤ q ∧ q ≤ 41 ∧ -41 ≤ r ∧ r ≤ 41) ∧ (∃ p', p' ≤ p + k ∧ CurAt w' g A n c p') ∧ w.grownBy w' (some g)

theorem three_at (w : World) (x y z lo hi : Int) (T : TypeId) (hx : lo ≤ x ∧ x ≤ hi) (hy : lo ≤ y ∧ y ≤ hi) (hz : lo ≤ z ∧ z ≤ hi) :
    ∀ i : Nat, i < 3 → ∃ u : Int, lo ≤ u ∧ u ≤ hi ∧ (w.alloc (.cells #[.int .i64 x, .int .i64 y, .int .i64 z] T)).cell? ⟨w.heap.size, 0 + i, none⟩ = some (.int .i64 u)
  | 0, _ => ⟨x, hx.1, hx.2, by simp [go_sem]⟩
  | 1, _ => ⟨y, hy.1, hy.2, by simp [go_sem]⟩
  | 2, _ => ⟨z, hz.1, hz.2, by simp [go_sem]⟩
theorem two_at (w : World) (x y lo hi : Int) (T : TypeId) (hx : lo ≤ x ∧ x ≤ hi) (hy : lo ≤ y ∧ y ≤ hi) :
    ∀ i : Nat, i < 2 → ∃ u : Int, lo ≤ u ∧ u ≤ hi ∧ (w.alloc (.cells #[.int .i64 x, .int .i64 y] T)).cell? ⟨w.heap.size, 0 + i, none⟩ = some (.int .i64 u)
  | 0, _ => ⟨x, hx.1, hx.2, by simp [go_sem]⟩
  | 1, _ => ⟨y, hy.1, hy.2, by simp [go_sem]⟩

theorem RdBy.lt {w : World} {A : Option Addr} {n : Nat} (h : RdBy w A n) : 0 < n → ∀ a, A = some a → a.block < w.heap.size := fun h0 a ha => by
  obtain ⟨gb, ob, rfl, hx⟩ := h h0
  obtain ⟨x, _, _, cx⟩ := hx 0 h0
  obtain rfl := Option.some.inj ha
  exact cell_lt cx

/-- Two hexes drawn. -/
def TwoPost (w : World) (e : Ending) (w' : World) : Prop :=
  ∃ q r q' r' : Int, e = .returned (.tuple #[hx q r, hx q' r']) ∧ (-41 ≤ q ∧ q ≤ 41 ∧ -41 ≤ r ∧ r ≤ 41) ∧ (-41 ≤ q' ∧ q' ≤ 41 ∧ -41 ≤ r' ∧ r' ≤ 41) ∧ Kp w w'

end Go.Proofs.YtmhkjcgdjoeldaaDoor
