/-
  Arguments that are structs, and slices of structs: their cells, read one by one.
-/
import Derived.Test.YtgeophllbmjjfaaDoorOpenI
import Derived.Lib.SmallJoins
import Derived.Deep.Fields
import Derived.Deep.Slices
namespace Go.Proofs.YtgeophllbmjjfaaDoor
open Go.ChangeShapes Go.WideShapes Go.ChangeAt Go.RowKit Go.Joins Go.Deep

/-- The cells of a struct whose fields take one cell each, read one by one. -/
theorem fields_of_trod {H : Type} {enc : TypeId × Value → H} {P : Program} {w : World} {base n0 fuel : Nat} {spare : Nat → Bool} {held : Bool} {t : TypeId} {fs : Array Field} {cs : List Value} {x : DataW H × List MemPlace}
    (hs : P.underlying t = some (.struct fs)) (hone : Go.Deep.oneCellFields P fs = true) (hn : fs.size = n0) (hl : cs.length = n0) (hf : DataW.trod enc P w base spare held fuel t cs = some x) :
    ∃ n : Nat, ∀ (j : Nat) (f : Field), fs[j]? = some f → ∃ c y, cs[j]? = some c ∧ DataW.trod enc P w base spare held n f.type [c] = some y := by
  obtain ⟨xs, n, _, _, _, hlen, hg⟩ := DataW.trod_struct hs hf
  refine ⟨n, fun j f hj => ?_⟩
  have hjl : j < fs.size := (Array.getElem?_eq_some_iff.1 hj).1
  obtain ⟨o, k⟩ := Go.Deep.hone_of hone j f hj
  have h1 := hg j f hj
  rw [o, k] at h1
  have e : (cs.drop j).take 1 = [cs[j]'(by omega)] := by
    rw [List.drop_eq_getElem_cons (by omega)]
    rfl
  rw [e] at h1
  exact ⟨_, _, List.getElem?_eq_getElem (by omega), h1.trans (List.getElem?_eq_getElem (by omega))⟩

theorem add_none' (b off k : Nat) : (⟨b, off, none⟩ : Addr).add k = ⟨b, off + k, none⟩ := by
  unfold Addr.add
  split
  · rename_i h
    simp_all
  · rfl
theorem RdI.shape {w : World} {v : Value} {l : List Int} (h : RdI w v l) : ∃ A c, v = .slice A l.length c := by
  obtain ⟨A, c, e, _⟩ := h
  exact ⟨A, c, e⟩

/-- A slice of structs of sz cells each reads as a list, where each element's cells do. -/
theorem rd_structs {α : Type} {H : Type} {enc : TypeId × Value → H} {W : World} {t e : TypeId} {sz fuel : Nat} {v : Value} {y : DataW H × List MemPlace} (At : Nat → Nat → α → Prop) (hsz : Tryd.prog.cellsOf e = sz)
    (ht : Tryd.prog.underlying t = some (.slice e)) (hf : DataW.trod enc Tryd.prog W 0 (fun _ => true) true fuel t [v] = some y)
    (one : ∀ (a : Addr) (fu : Nat) (cs : List Value) (x : DataW H × List MemPlace), cs.length = sz → (∀ j, j < sz → W.cell? (a.add j) = cs[j]?) → DataW.trod enc Tryd.prog W 0 (fun _ => true) true fu e cs = some x → a.spot = none ∧ ∃ z : α, At a.block a.off z) :
    ∃ (A : Option Addr) (n c : Nat) (l : List α), v = .slice A n c ∧ l.length = n ∧ n ≤ maxLen ∧ (0 < n → ∃ g off, A = some ⟨g, off, none⟩ ∧ ∀ i x, l[i]? = some x → At g (off + i * sz) x) := by
  rcases open_slice ht hf with ⟨hcs, _⟩ | ⟨a, len, cap, m, n, D, Pl, hcs, _, hl, hm, hmm, _, hi⟩
  · simp only [List.cons.injEq, and_true] at hcs
    exact ⟨none, 0, 0, [], hcs, rfl, by decide, fun h => absurd h (by omega)⟩
  · simp only [List.cons.injEq, and_true] at hcs
    have hmc : m = cap := by simpa using hmm
    have each : ∀ i, i < len → (a.add (i * sz)).spot = none ∧ ∃ z : α, At (a.add (i * sz)).block (a.add (i * sz)).off z := by
      intro i hil
      obtain ⟨cs', hc, ht'⟩ := hi i (by omega)
      rw [hsz] at hc
      obtain ⟨_, hcl, hat⟩ := World.cells?_some hc
      exact one _ _ cs' _ hcl (fun j hj => hat j hj) ht'
    rcases Nat.eq_zero_or_pos len with rfl | hpos
    · exact ⟨some a, 0, cap, [], hcs, rfl, by omega, fun h => absurd h (by omega)⟩
    · obtain ⟨b, off, spot⟩ := a
      have hspot : spot = none := by
        have := (each 0 hpos).1
        simpa [Addr.add] using this
      subst hspot
      let l : List α := (List.range len).attach.map fun i => (each i.1 (List.mem_range.1 i.2)).2.choose
      have hll : l.length = len := by simp [l]
      refine ⟨_, len, cap, l, hcs, hll, by omega, fun _ => ⟨b, off, rfl, fun i x hx => ?_⟩⟩
      have hil : i < len := by have := (List.getElem?_eq_some_iff.1 hx).1; omega
      have hs := (each i hil).2.choose_spec
      have key : ∀ (A : Addr) (z : α), A = ⟨b, off + i * sz, none⟩ → At A.block A.off z → At b (off + i * sz) z := by
        rintro _ _ rfl h
        exact h
      have hx' : x = (each i hil).2.choose := by
        obtain ⟨hi2, rfl⟩ := List.getElem?_eq_some_iff.1 hx
        simp [l]
      rw [hx']
      exact key _ _ (add_none' b off (i * sz)) hs

/-- An argument that is a struct whose fields take one cell each: the cell of each field reads as the field's type says. -/
theorem open_fields {H : Type} {enc : TypeId × Value → H} {P : Program} {w : World} {base b0 n0 : Nat} {spare : Nat → Bool} {held : Bool} {rc : Reach} {t : TypeId} {fs : Array Field} {v : Value} {d : DataW H} {p : List MemPlace}
    (hs : P.underlying t = some (.struct fs)) (hone : Go.Deep.oneCellFields P fs = true) (hC : P.cellsOf t = n0) (hn : fs.size = n0) (hv : Value.okWide P w rc b0 t v) (h : DataW.Trod enc P w base spare held t v d p) :
    ∃ (cs : List Value) (n : Nat), v = .agg cs.toArray ∧ cs.length = n0 ∧ ∀ (j : Nat) (f : Field), fs[j]? = some f → ∃ c y, cs[j]? = some c ∧ DataW.trod enc P w base spare held n f.type [c] = some y := by
  obtain ⟨⟨cs⟩, rfl, hsz⟩ := okWide_struct hs hv
  obtain ⟨fuel, hf⟩ := h
  obtain ⟨xs, n, _, _, _, hlen, hg⟩ := DataW.trod_struct hs hf
  have hcl : cs.length = n0 := hsz.trans hC
  refine ⟨cs, n, rfl, hcl, fun j f hj => ?_⟩
  have hjl : j < fs.size := (Array.getElem?_eq_some_iff.1 hj).1
  obtain ⟨o, k⟩ := Go.Deep.hone_of hone j f hj
  have h1 := hg j f hj
  rw [o, k] at h1
  have e : ((Value.agg cs.toArray).cells.toList.drop j).take 1 = [cs[j]'(by omega)] := by
    simp only [Value.cells, List.toList_toArray]
    rw [List.drop_eq_getElem_cons (by omega)]
    rfl
  rw [e] at h1
  exact ⟨_, _, List.getElem?_eq_getElem (by omega), h1.trans (List.getElem?_eq_getElem (by omega))⟩
end Go.Proofs.YtgeophllbmjjfaaDoor
