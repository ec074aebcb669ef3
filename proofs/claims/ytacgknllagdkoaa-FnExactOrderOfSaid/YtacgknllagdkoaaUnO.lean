/-
  Slices of units as lists of records: the laws' size, copy, comparison, marking and look; an argument of that type.
-/
import Derived.Test.YtacgknllagdkoaaRdS
import Derived.Test.YtacgknllagdkoaaRowB
import Derived.Test.YtacgknllagdkoaaMarkN
import Derived.Test.YtacgknllagdkoaaSzP
import Derived.Test.YtacgknllagdkoaaMk
namespace Go.Proofs.Ytacgknllagdkoaa
open Go.ChangeShapes Go.WideShapes Go.ChangeAt Go.RowKit Go.Joins Go.Deep

structure Uni where
  s : Int
  k : Int
  a : Int
  t : Int
abbrev ux (s k a t : Int) : Value := .agg #[.int .i64 s, .int .i64 k, .int .i64 a, .int .i64 t]
def UniAt (w : World) (g o : Nat) (x : Uni) : Prop := w.cell? ⟨g, o, none⟩ = some (.int .i64 x.s) ∧ w.cell? ⟨g, o + 1, none⟩ = some (.int .i64 x.k) ∧ w.cell? ⟨g, o + 2, none⟩ = some (.int .i64 x.a) ∧ w.cell? ⟨g, o + 3, none⟩ = some (.int .i64 x.t)
theorem UniAt.keep {w w' : World} {g o : Nat} {x : Uni} (h : UniAt w g o x) (k : Kp w w') : UniAt w' g o x := ⟨k.cell h.1, k.cell h.2.1, k.cell h.2.2.1, k.cell h.2.2.2⟩
def UniI (x : Uni) : Prop := isI64 x.s ∧ isI64 x.k ∧ isI64 x.a ∧ isI64 x.t
/-- The slice v reads as the list l. -/
def RdU (w : World) (v : Value) (l : List Uni) : Prop :=
  ∃ A c, v = .slice A l.length c ∧ (0 < l.length → ∃ g off, A = some ⟨g, off, none⟩ ∧ ∀ i x, l[i]? = some x → UniAt w g (off + i * 4) x)
theorem RdU.keep {w w' : World} {v : Value} {l : List Uni} (h : RdU w v l) (hk : Kp w w') : RdU w' v l := by
  obtain ⟨A, c, rfl, h⟩ := h
  refine ⟨A, c, rfl, fun h0 => ?_⟩
  obtain ⟨g, off, rfl, hc⟩ := h h0
  exact ⟨g, off, rfl, fun i x hx => (hc i x hx).keep hk⟩
end Go.Proofs.Ytacgknllagdkoaa
