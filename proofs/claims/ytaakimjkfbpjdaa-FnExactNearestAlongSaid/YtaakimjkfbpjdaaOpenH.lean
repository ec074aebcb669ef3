/-
  An argument that is a slice of hexes reads as a list of pairs of integers.
-/
import Derived.Test.YtaakimjkfbpjdaaLaw
import Derived.Test.YtaakimjkfbpjdaaRowB
import Derived.Deep.Slices
import Derived.OpenShut
namespace Go.Proofs.Ytaakimjkfbpjdaa
open Go.ChangeShapes Go.WideShapes Go.ChangeAt Go.RowKit Go.Joins Go.Deep

theorem cellsInt1 : Try.prog.cellsOf 3 = 1 := by kernel_rfl
theorem hexFields : ∃ f0 f1 : Field, Try.prog.underlying 36 = some (.struct #[f0, f1]) ∧ f0.type = 3 ∧ f1.type = 3 ∧ f0.offset = 0 ∧ f1.offset = 1 :=
  ⟨_, _, Try.underlying36, rfl, rfl, rfl, rfl⟩
theorem add_none (b off k : Nat) : (⟨b, off, none⟩ : Addr).add k = ⟨b, off + k, none⟩ := by
  unfold Addr.add
  split
  · rename_i h
    simp_all
  · rfl
theorem rdH_of_trod {H : Type} {enc : TypeId × Value → H} {W : World} {base : Nat} {v : Value} {d : DataW H} {p : List MemPlace}
    (hv : Value.okWide Try.prog W .any base 51 v) (h : DataW.Trod enc Try.prog W 0 (fun _ => true) true 51 v d p) : ∃ l, RdH W v l ∧ l.length ≤ maxLen := by
  obtain ⟨a0, len, cap, rfl⟩ := okWide_slice Try.underlying51 hv
  obtain ⟨fuel, hf⟩ := h
  rcases open_slice Try.underlying51 hf with ⟨hcs, hx⟩ | ⟨a, len', cap', m, n, D, Pl, hcs, _, hl, hm, hmm, hx, hi⟩
  · simp only [Value.cells, List.cons.injEq, Value.slice.injEq, and_true] at hcs
    obtain ⟨rfl, rfl, rfl⟩ := hcs
    exact ⟨[], ⟨none, 0, rfl, fun h0 => by simp at h0⟩, by simp⟩
  · simp only [Value.cells, List.cons.injEq, Value.slice.injEq, and_true] at hcs
    obtain ⟨rfl, rfl, rfl⟩ := hcs
    have hmc : m = cap := by simpa using hmm
    have each : ∀ i, i < len → ∃ x : Int × Int, W.cell? (a.add (i * 2)) = some (.int .i64 x.1) ∧ W.cell? (a.add (i * 2 + 1)) = some (.int .i64 x.2) := by
      intro i hil
      obtain ⟨cs', hc, ht'⟩ := hi i (by omega)
      rw [cellsHex] at hc
      obtain ⟨f0, f1, hu, e0, e1, o0, o1⟩ := hexFields
      obtain ⟨y0, y1, n', _, hlen, u0, u1⟩ := trod_struct2 hu ht'
      rw [e0, o0, cellsInt1] at u0
      rw [e1, o1, cellsInt1] at u1
      obtain ⟨x0, c0, _, _⟩ := DataW.trod_int Try.underlying3 u0
      obtain ⟨x1, c1, _, _⟩ := DataW.trod_int Try.underlying3 u1
      obtain ⟨_, hcl, hat⟩ := World.cells?_some hc
      have g0 : cs'[0]? = some (.int .i64 x0) := by
        have := congrArg (·[0]?) c0
        simpa [List.getElem?_take, List.getElem?_drop] using this
      have g1 : cs'[1]? = some (.int .i64 x1) := by
        have := congrArg (·[0]?) c1
        simpa [List.getElem?_take, List.getElem?_drop] using this
      have h0 := hat 0 (by omega)
      have h1 := hat 1 (by omega)
      rw [g0, add_add, Nat.add_zero] at h0
      rw [g1, add_add] at h1
      exact ⟨(x0, x1), h0, h1⟩
    let l : List (Int × Int) := (List.range len).map fun i => if hil : i < len then (each i hil).choose else (0, 0)
    have hll : l.length = len := by simp [l]
    refine ⟨l, ⟨some a, cap, by rw [hll], fun h0 => ?_⟩, by rw [hll]; omega⟩
    obtain ⟨b, off, spot⟩ := a
    have hspot : spot = none := by
      have := World.cell?_spot (each 0 (by omega)).choose_spec.1
      simpa [Addr.add] using this
    subst hspot
    refine ⟨b, off, rfl, fun i x hx => ?_⟩
    have hil : i < len := by have := (List.getElem?_eq_some_iff.1 hx).1; omega
    have hx' : x = (each i hil).choose := by
      simp only [l, List.getElem?_map, List.getElem?_range hil, Option.map_some, Option.some.injEq, dif_pos hil] at hx
      exact hx.symm
    have hs := (each i hil).choose_spec
    rw [← hx', add_none, add_none, ← Nat.add_assoc] at hs
    exact hs
end Go.Proofs.Ytaakimjkfbpjdaa
