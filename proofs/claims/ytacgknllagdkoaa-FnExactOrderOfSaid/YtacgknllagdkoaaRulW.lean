/-
  Slices of terrains and of kinds as lists; the program's lists of their names. Nothing that was there is changed.
-/
import Derived.Test.YtacgknllagdkoaaNameB
import Derived.Test.YtacgknllagdkoaaSpan
namespace Go.Proofs.Ytacgknllagdkoaa
open Go.RowKit

/-- The cells of a terrain, whose costs read as a list. -/
def TerAt (w : World) (g o : Nat) (x : Ter) : Prop :=
  ∃ A c, (w.cell? ⟨g, o, none⟩ = some (.string x.name) ∧ w.cell? ⟨g, o + 1, none⟩ = some (.slice A x.cost.length c) ∧ w.cell? ⟨g, o + 2, none⟩ = some (.int .i64 x.shift) ∧ w.cell? ⟨g, o + 3, none⟩ = some (.int .i64 x.height) ∧ w.cell? ⟨g, o + 4, none⟩ = some (.bool x.blocks)) ∧ RdI w (.slice A x.cost.length c) x.cost
theorem TerAt.keep {w w' : World} {g o : Nat} {x : Ter} (h : TerAt w g o x) (k : Kp w w') : TerAt w' g o x := by
  obtain ⟨A, c, h, hr⟩ := h
  exact ⟨A, c, ⟨k.cell h.1, k.cell h.2.1, k.cell h.2.2.1, k.cell h.2.2.2.1, k.cell h.2.2.2.2⟩, hr.keep k⟩
def KndAt (w : World) (g o : Nat) (x : Knd) : Prop :=
  w.cell? ⟨g, o, none⟩ = some (.string x.name) ∧ w.cell? ⟨g, o + 1, none⟩ = some (.int .i64 x.str) ∧ w.cell? ⟨g, o + 2, none⟩ = some (.int .i64 x.mov) ∧ w.cell? ⟨g, o + 3, none⟩ = some (.int .i64 x.stp) ∧ w.cell? ⟨g, o + 4, none⟩ = some (.bool x.zone) ∧ w.cell? ⟨g, o + 5, none⟩ = some (.int .i64 x.view)
theorem KndAt.keep {w w' : World} {g o : Nat} {x : Knd} (h : KndAt w g o x) (k : Kp w w') : KndAt w' g o x :=
  ⟨k.cell h.1, k.cell h.2.1, k.cell h.2.2.1, k.cell h.2.2.2.1, k.cell h.2.2.2.2.1, k.cell h.2.2.2.2.2⟩
/-- The slice with this address, length and room reads as the list l of terrains. -/
def RdT (w : World) (A : Option Addr) (n : Nat) (l : List Ter) : Prop :=
  l.length = n ∧ (0 < n → ∃ g off, A = some ⟨g, off, none⟩ ∧ ∀ i x, l[i]? = some x → TerAt w g (off + i * 5) x)
theorem RdT.keep {w w' : World} {A : Option Addr} {n : Nat} {l : List Ter} (h : RdT w A n l) (k : Kp w w') : RdT w' A n l := ⟨h.1, fun h0 => by
  obtain ⟨g, off, e, hc⟩ := h.2 h0
  exact ⟨g, off, e, fun i x hx => (hc i x hx).keep k⟩⟩
def RdK (w : World) (A : Option Addr) (n : Nat) (l : List Knd) : Prop :=
  l.length = n ∧ (0 < n → ∃ g off, A = some ⟨g, off, none⟩ ∧ ∀ i x, l[i]? = some x → KndAt w g (off + i * 6) x)
theorem RdK.keep {w w' : World} {A : Option Addr} {n : Nat} {l : List Knd} (h : RdK w A n l) (k : Kp w w') : RdK w' A n l := ⟨h.1, fun h0 => by
  obtain ⟨g, off, e, hc⟩ := h.2 h0
  exact ⟨g, off, e, fun i x hx => (hc i x hx).keep k⟩⟩

def OwnS (w : World) (base : Nat) (v : Value) (l : List ByteArray) : Prop := w.ownsRow base 9 1 v l.length (l.map fun x => .string x)
theorem OwnS.nil (w : World) (base : Nat) : OwnS w base (.slice none 0 0) [] := World.ownsRow_nil w base _ 1
theorem OwnS.keep {w w' : World} {base : Nat} {v : Value} {l : List ByteArray} (h : OwnS w base v l) (hk : Kp w w') : OwnS w' base v l := ownsRow_keep h hk
/-- A new list of strings. -/
def NamesPost (n : Nat) (l : List ByteArray) (w : World) (e : Ending) (w' : World) : Prop :=
  ∃ A c, e = .returned (.slice A n c) ∧ RdS w' (.slice A n c) l ∧ n ≤ c ∧ c ≤ 9223372036854775807 ∧ Kp w w'
theorem OwnS.post {w w' : World} {base : Nat} {v : Value} {l : List ByteArray} {n : Nat} (h : OwnS w' base v l) (hn : l.length = n) (k : Kp w w') : NamesPost n l w (.returned v) w' := by
  rcases h.2 with ⟨rfl, h0⟩ | ⟨g, cap, cur, rfl, hb, hg, hc, hm, hs, ht⟩
  · have e : n = 0 := by omega
    subst e
    exact ⟨none, 0, rfl, ⟨none, 0, by rw [hn], fun h0 => by omega⟩, by omega, by omega, k⟩
  · subst hn
    refine ⟨_, _, rfl, ⟨_, _, rfl, fun _ => ⟨g, 0, rfl, fun i x hx => ?_⟩⟩, by omega, by unfold maxLen at hm; omega, k⟩
    have hi : i < l.length := (List.getElem?_eq_some_iff.1 hx).1
    rw [Nat.zero_add]
    exact (World.ownsRow.cellAt h i (by omega)).trans (by simp [hx])

end Go.Proofs.Ytacgknllagdkoaa
