/-
  The laws' own functions on combat tables: the size, the copy (in memory of its own), the comparison of two that read as the same lists; an argument that is a table reads as its lists. Nothing that was there is changed.
-/
import Derived.Test.YtjpfmckoodalnaaDoorOdd
import Derived.Test.YtjpfmckoodalnaaDoorRdS
namespace Go.Proofs.YtjpfmckoodalnaaDoor
open Go.ChangeShapes Go.WideShapes Go.ChangeAt Go.RowKit Go.Joins Go.Deep

abbrev cv (c : Value) (d : Int) (r : Value) : Value := .agg #[c, .int .i64 d, r]
/-- What an argument's table is: two slices that read as lists, within Go's own bounds. -/
structure CtIn (w : World) (c r : Value) (co : List (Int × Int)) (rs : List (List Int)) : Prop where
  rc : RdH w c co
  rr : RdII w r rs
  bc : co.length ≤ 9223372036854775807
  br : rs.length ≤ 9223372036854775807
  bl : ∀ l ∈ rs, l.length ≤ 9223372036854775807
/-- The same, all of it small. -/
structure CtAt (w : World) (c r : Value) (co : List (Int × Int)) (rs : List (List Int)) : Prop where
  rc : RdH w c co
  rr : RdII w r rs
  bc : co.length ≤ 1048576
  br : rs.length ≤ 1048576
  bl : ∀ l ∈ rs, l.length ≤ 1048576
def ctSm (co : List (Int × Int)) (rs : List (List Int)) : Prop := co.length ≤ 1048576 ∧ rs.length ≤ 1048576 ∧ ∀ l ∈ rs, l.length ≤ 1048576
theorem CtIn.keep {w w' : World} {c r : Value} {co : List (Int × Int)} {rs : List (List Int)} (h : CtIn w c r co rs) (k : Kp w w') : CtIn w' c r co rs := ⟨h.rc.keep k, h.rr.keep k, h.bc, h.br, h.bl⟩
theorem CtAt.keep {w w' : World} {c r : Value} {co : List (Int × Int)} {rs : List (List Int)} (h : CtAt w c r co rs) (k : Kp w w') : CtAt w' c r co rs := ⟨h.rc.keep k, h.rr.keep k, h.bc, h.br, h.bl⟩
theorem CtIn.at {w : World} {c r : Value} {co : List (Int × Int)} {rs : List (List Int)} (h : CtIn w c r co rs) (s : ctSm co rs) : CtAt w c r co rs := ⟨h.rc, h.rr, s.1, s.2.1, s.2.2⟩

/-- A copied table: its columns, its rows, all in blocks of their own from a number on. -/
structure OwnC (w : World) (base : Nat) (c r : Value) (co : List (Int × Int)) (rs : List (List Int)) (vs : List Value) : Prop where
  oc : OwnO w base c co
  or : OwnII w base r rs vs
  cr : ∀ g, c.ownBlock = some g → r.ownBlock ≠ some g
  ci : ∀ g, c.ownBlock = some g → ∀ (j : Nat) (x : Value), vs[j]? = some x → x.ownBlock ≠ some g
theorem OwnC.keep {w w' : World} {base : Nat} {c r : Value} {co : List (Int × Int)} {rs : List (List Int)} {vs : List Value} (h : OwnC w base c r co rs vs) (k : Kp w w') : OwnC w' base c r co rs vs := ⟨h.oc.keep k, h.or.keep k, h.cr, h.ci⟩
theorem OwnC.at {w w0 : World} {base : Nat} {c r c0 r0 : Value} {co : List (Int × Int)} {rs : List (List Int)} {vs : List Value} (h : OwnC w base c r co rs vs) (s : CtAt w0 c0 r0 co rs) : CtAt w c r co rs := ⟨h.oc.rd, h.or.rd, s.bc, s.br, s.bl⟩
theorem OwnC.base {w : World} {base b : Nat} {c r : Value} {co : List (Int × Int)} {rs : List (List Int)} {vs : List Value} (h : OwnC w base c r co rs vs) (hb : b ≤ base) : OwnC w b c r co rs vs := ⟨h.oc.base hb, h.or.base hb, h.cr, h.ci⟩
theorem OwnII.far {w : World} {base : Nat} {v : Value} {L : List (List Int)} {vs : List Value} (h : OwnII w base v L vs) {g j : Nat} (hg : g < base) (u : Value) : OwnII (w.setCell ⟨g, j, none⟩ u) base v L vs := by
  have hlen := h.len
  refine ⟨World.ownsRow.kept h.row (grown_set w g j u) (.inr fun e => ?_), fun i x l hx hl => (h.inn i x l hx hl).far ((h.inn i x l hx hl).not hg) u, h.out, h.two⟩
  have := (World.ownsRow.lt h.row g e).1
  omega
theorem OwnC.far {w : World} {base : Nat} {c r : Value} {co : List (Int × Int)} {rs : List (List Int)} {vs : List Value} (h : OwnC w base c r co rs vs) {g j : Nat} (hg : g < base) (u : Value) : OwnC (w.setCell ⟨g, j, none⟩ u) base c r co rs vs :=
  ⟨h.oc.far (h.oc.not hg) u, h.or.far hg u, h.cr, h.ci⟩

abbrev Live3 (w : World) (b : Nat) (v0 v1 v2 : Value) : Prop :=
  (w.cell? ⟨b, 0, none⟩ = some v0 ∧ w.frozen? ⟨b, 0, none⟩ = false) ∧ (w.cell? ⟨b, 1, none⟩ = some v1 ∧ w.frozen? ⟨b, 1, none⟩ = false) ∧ (w.cell? ⟨b, 2, none⟩ = some v2 ∧ w.frozen? ⟨b, 2, none⟩ = false)
theorem live3_keep {w w' : World} {b : Nat} {v0 v1 v2 : Value} (k : Kp w w') (h : Live3 w b v0 v1 v2) : Live3 w' b v0 v1 v2 := ⟨k.liv h.1, k.liv h.2.1, k.liv h.2.2⟩

theorem cellsIS : Tryd.prog.cellsOf 41 = 1 := by kernel_rfl
set_option maxRecDepth 100000 in
theorem rdII_of_trod {H : Type} {enc : TypeId × Value → H} {W : World} {v : Value} {n : Nat} {y : DataW H × List MemPlace}
    (hf : DataW.trod enc Tryd.prog W 0 (fun _ => true) true n 24 [v] = some y) : ∃ L, RdII W v L ∧ L.length ≤ 9223372036854775807 ∧ ∀ l ∈ L, l.length ≤ 9223372036854775807 := by
  obtain ⟨A, n, c, l, rfl, hl, hm, hr⟩ := rd_structs (α := Value × List Int) (fun g o x => W.cell? ⟨g, o, none⟩ = some x.1 ∧ RdI W x.1 x.2 ∧ x.2.length ≤ 9223372036854775807) cellsIS Tryd.underlying24 hf (fun a fu cs x hcl hat hx => by
    obtain ⟨c0, rfl⟩ : ∃ c0, cs = [c0] := by
      match cs, hcl with
      | [c0], _ => exact ⟨c0, rfl⟩
    obtain ⟨m, r1, r2, _⟩ := rdB_of_trod hx
    have g0 := (hat 0 (by omega))
    simp only [List.getElem?_cons_zero] at g0
    obtain ⟨b, off, spot⟩ := a
    have hspot : spot = none := by
      have := World.cell?_spot g0
      simpa [Addr.add] using this
    subst hspot
    rw [add_none'] at g0
    exact ⟨rfl, (c0, m), g0, r1, r2⟩)
  unfold maxLen at hm
  have mem : ∀ (i : Nat) (x : Value × List Int), l[i]? = some x → RdI W x.1 x.2 ∧ x.2.length ≤ 9223372036854775807 := fun i x hx => by
    obtain ⟨g, off, rfl, hc⟩ := hr (by have := (List.getElem?_eq_some_iff.1 hx).1; omega)
    exact (hc i x hx).2
  refine ⟨l.map (·.2), ⟨A, c, l.map (·.1), by rw [List.length_map, hl], by simp, fun h0 => ?_, fun i x m hx hm => ?_⟩, by rw [List.length_map]; omega, fun m hm => ?_⟩
  · obtain ⟨g, off, e, hc⟩ := hr (by rw [List.length_map] at h0; omega)
    refine ⟨g, off, e, fun i x hx => ?_⟩
    rw [List.getElem?_map] at hx
    obtain ⟨p, hp, rfl⟩ := Option.map_eq_some_iff.1 hx
    have := (hc i p hp).1
    rw [Nat.mul_one] at this
    exact this
  · rw [List.getElem?_map] at hx hm
    obtain ⟨p, hp, rfl⟩ := Option.map_eq_some_iff.1 hx
    rw [hp] at hm
    obtain rfl := Option.some.inj hm
    exact (mem i p hp).1
  · obtain ⟨p, hp, rfl⟩ := List.mem_map.1 hm
    obtain ⟨i, hi, rfl⟩ := List.mem_iff_getElem.1 hp
    exact (mem i _ (List.getElem?_eq_getElem hi)).2

theorem three {α : Type} {l : List α} (h : l.length = 3) {a b c : α} (h0 : l[0]? = some a) (h1 : l[1]? = some b) (h2 : l[2]? = some c) : l = [a, b, c] := by
  match l, h with
  | [x0, x1, x2], _ => simp_all

end Go.Proofs.YtjpfmckoodalnaaDoor
