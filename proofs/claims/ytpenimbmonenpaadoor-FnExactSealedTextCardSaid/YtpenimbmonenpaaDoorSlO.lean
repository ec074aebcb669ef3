/-
  Slices of seals as lists of records: the laws' size, copy, comparison, marking and look; arguments of that type.
-/
import Derived.Test.YtpenimbmonenpaaDoorRdS
import Derived.Test.YtpenimbmonenpaaDoorRowC
import Derived.Test.YtpenimbmonenpaaDoorMarkN
import Derived.Test.YtpenimbmonenpaaDoorSzP
import Derived.Test.YtpenimbmonenpaaDoorMk
namespace Go.Proofs.YtpenimbmonenpaaDoor
open Go.ChangeShapes Go.WideShapes Go.ChangeAt Go.RowKit Go.Joins Go.Deep

structure Sea where
  t : Int
  s : Int
  x : Int
abbrev slx (t : Int) (s : Int) (x : Int) : Value := .agg #[.int .i64 t, .int .i64 s, .int .i64 x]
def SeaAt (w : World) (g o : Nat) (x : Sea) : Prop := w.cell? ⟨g, o, none⟩ = some (.int .i64 x.t) ∧ w.cell? ⟨g, o + 1, none⟩ = some (.int .i64 x.s) ∧ w.cell? ⟨g, o + 2, none⟩ = some (.int .i64 x.x)
theorem SeaAt.keep {w w' : World} {g o : Nat} {x : Sea} (h : SeaAt w g o x) (k : Kp w w') : SeaAt w' g o x := ⟨k.cell h.1, k.cell h.2.1, k.cell h.2.2⟩
def SeaI (x : Sea) : Prop := isI64 x.t ∧ isI64 x.s ∧ isI64 x.x
/-- The slice v reads as the list l. -/
def RdSl (w : World) (v : Value) (l : List Sea) : Prop :=
  ∃ A c, v = .slice A l.length c ∧ (0 < l.length → ∃ g off, A = some ⟨g, off, none⟩ ∧ ∀ i x, l[i]? = some x → SeaAt w g (off + i * 3) x)
theorem RdSl.keep {w w' : World} {v : Value} {l : List Sea} (h : RdSl w v l) (hk : Kp w w') : RdSl w' v l := by
  obtain ⟨A, c, rfl, h⟩ := h
  refine ⟨A, c, rfl, fun h0 => ?_⟩
  obtain ⟨g, off, rfl, hc⟩ := h h0
  exact ⟨g, off, rfl, fun i x hx => (hc i x hx).keep hk⟩
def cellsSl : List Sea → List Value
  | [] => []
  | x :: l => .int .i64 x.t :: .int .i64 x.s :: .int .i64 x.x :: cellsSl l
theorem cellsSl_length : ∀ l, (cellsSl l).length = l.length * 3
  | [] => rfl
  | x :: l => by simp only [cellsSl, List.length_cons, cellsSl_length l]; omega
theorem cellsSl_append : ∀ l m, cellsSl (l ++ m) = cellsSl l ++ cellsSl m
  | [], _ => rfl
  | x :: l, m => by simp only [cellsSl, List.cons_append, cellsSl_append l m]
theorem cellsSl_at : ∀ (l : List Sea) (i : Nat) (x : Sea), l[i]? = some x → (cellsSl l)[i * 3]? = some (.int .i64 x.t) ∧ (cellsSl l)[i * 3 + 1]? = some (.int .i64 x.s) ∧ (cellsSl l)[i * 3 + 2]? = some (.int .i64 x.x)
  | [], _, _, h => by simp at h
  | y :: l, 0, x, h => by
    simp only [List.getElem?_cons_zero, Option.some.injEq] at h
    subst h
    exact ⟨rfl, rfl, rfl⟩
  | y :: l, i + 1, x, h => by
    have := cellsSl_at l i x (by simpa using h)
    have e1 : (i + 1) * 3 = i * 3 + 1 + 1 + 1 := by omega
    rw [e1]
    exact ⟨(by simpa [cellsSl] using this.1), (by simpa [cellsSl] using this.2.1), (by simpa [cellsSl] using this.2.2)⟩

/-- The slice v owns the list l, in a block from base on. -/
def OwnSl (w : World) (base : Nat) (v : Value) (l : List Sea) : Prop := w.ownsRow base 26 3 v l.length (cellsSl l)
theorem OwnSl.rd {w : World} {base : Nat} {v : Value} {l : List Sea} (h : OwnSl w base v l) : RdSl w v l := by
  rcases h.2 with ⟨rfl, hn⟩ | ⟨g, cap, cur, rfl, hb, hg, hc, hm, hs, ht⟩
  · exact ⟨none, 0, by rw [hn], fun h0 => by omega⟩
  · refine ⟨_, _, rfl, fun _ => ⟨g, 0, rfl, fun i x hx => ?_⟩⟩
    have hi : i < l.length := (List.getElem?_eq_some_iff.1 hx).1
    have e := cellsSl_at l i x hx
    rw [Nat.zero_add]
    exact ⟨(World.ownsRow.cellAt h (i * 3) (by omega)).trans e.1, (World.ownsRow.cellAt h (i * 3 + 1) (by omega)).trans e.2.1, (World.ownsRow.cellAt h (i * 3 + 2) (by omega)).trans e.2.2⟩
theorem OwnSl.base {w : World} {base b : Nat} {v : Value} {l : List Sea} (h : OwnSl w base v l) (hb : b ≤ base) : OwnSl w b v l := ownsRow_base h hb
theorem OwnSl.keep {w w' : World} {base : Nat} {v : Value} {l : List Sea} (h : OwnSl w base v l) (hk : Kp w w') : OwnSl w' base v l := ownsRow_keep h hk
theorem OwnSl.nil (w : World) (base : Nat) : OwnSl w base (.slice none 0 0) [] := World.ownsRow_nil w base _ 3
theorem infoSealed : (Tryd.prog.info? 26).map (fun i => (i.zero, i.size, i.bytes)) = some (some (slx 0 0 0), 3, 24) := by kernel_rfl
theorem OwnSl.slice {w : World} {base : Nat} {v : Value} {l : List Sea} (h : OwnSl w base v l) : ∃ A c, v = .slice A l.length c := by
  obtain ⟨A, c, rfl, _⟩ := h.rd
  exact ⟨A, c, rfl⟩
theorem OwnSl.far {w : World} {base : Nat} {v : Value} {l : List Sea} (h : OwnSl w base v l) {g j : Nat} (hne : v.ownBlock ≠ some g) (u : Value) : OwnSl (w.setCell ⟨g, j, none⟩ u) base v l :=
  World.ownsRow.kept h (grown_set w g j u) (.inr hne)
theorem OwnSl.not {w : World} {base : Nat} {v : Value} {l : List Sea} (h : OwnSl w base v l) {g : Nat} (hg : g < base) : v.ownBlock ≠ some g := fun e => by
  have := (World.ownsRow.lt h g e).1
  omega

theorem keep6u {w w1 : World} {p0 p1 p2 p3 p4 p5 : Addr} {v0 v1 v2 v3 v4 v5 : Value} (k : Kp w w1) (h : w.cell? p0 = some v0 ∧ w.cell? p1 = some v1 ∧ w.cell? p2 = some v2 ∧ w.cell? p3 = some v3 ∧ w.cell? p4 = some v4 ∧ w.cell? p5 = some v5) : w1.cell? p0 = some v0 ∧ w1.cell? p1 = some v1 ∧ w1.cell? p2 = some v2 ∧ w1.cell? p3 = some v3 ∧ w1.cell? p4 = some v4 ∧ w1.cell? p5 = some v5 :=
  ⟨k.cell h.1, k.cell h.2.1, k.cell h.2.2.1, k.cell h.2.2.2.1, k.cell h.2.2.2.2.1, k.cell h.2.2.2.2.2⟩

theorem eqSealed_same (t : Int) (s : Int) (x : Int) (w : World) :
    Calls Tryd.prog 10 #[slx t s x, slx t s x] w fun e' w' => e' = .returned (.bool true) ∧ Kp w w' := by
  have e0 : (t != t) = false := by simp
  have e1 : (s != s) = false := by simp
  have e2 : (x != x) = false := by simp
  go_enter Tryd.func10, Tryd.ntmps10
  go_wp2
  go_ret
  exact ⟨rfl, ((Kp.refl _).alloc _).alloc _⟩

set_option maxRecDepth 100000 in
theorem toSealed_any (t : Int) (s : Int) (x : Int) (w : World) :
    Calls Tryd.prog 6 #[slx t s x] w fun e' w' => e' = .returned (slx t s x) ∧ Kp w w' := by
  go_enter Tryd.func6, Tryd.ntmps6
  go_wp2
  exact bodyPost_ret (v := slx t s x) (by simp [results, Tryd.results6, go_sem]) rfl ⟨rfl, (((Kp.refl _).alloc _).alloc _).alloc _⟩

theorem marks3_step (k0 : Int) (xs : List Value) (t n : Nat) (hl : xs.length = n * 3) (ht : t < n) :
    (((marks k0 (t * 3) ++ xs.drop (t * 3)).set (t * 3) (.int .i64 (k0 + 3 * (t : Int)))).set (t * 3 + 1) (.int .i64 (k0 + 3 * (t : Int) + 1))).set (t * 3 + 2) (.int .i64 (k0 + 3 * (t : Int) + 1 + 1)) = marks k0 ((t + 1) * 3) ++ xs.drop ((t + 1) * 3) := by
  have e0 : k0 + 3 * (t : Int) = k0 + ((t * 3 : Nat) : Int) := by omega
  have e1 : k0 + 3 * (t : Int) + 1 = k0 + ((t * 3 + 1 : Nat) : Int) := by omega
  have e2 : k0 + 3 * (t : Int) + 1 + 1 = k0 + ((t * 3 + 2 : Nat) : Int) := by omega
  rw [e2, e1, e0]
  rw [marks1_step k0 xs (t * 3) (n * 3) (by omega) (by omega), marks1_step k0 xs (t * 3 + 1) (n * 3) (by omega) (by omega), marks1_step k0 xs (t * 3 + 2) (n * 3) (by omega) (by omega), show t * 3 + 2 + 1 = (t + 1) * 3 from by omega]

theorem cellsSealed : Tryd.prog.cellsOf 23 = 3 := by kernel_rfl
theorem openSealed_list {l : List Value} (hl : l.length = 3) {c0 : Value} {c1 : Value} {c2 : Value} (q0 : l[0]? = some c0) (q1 : l[1]? = some c1) (q2 : l[2]? = some c2) : l = [c0, c1, c2] := by
  match l, hl with
  | [x0, x1, x2], _ =>
    simp at q0 q1 q2
    subst q0 q1 q2
    rfl
set_option maxRecDepth 100000 in
/-- An argument that is one such struct. -/
theorem openSealed {H : Type} {enc : TypeId × Value → H} {W : World} {base : Nat} {v : Value} {d : DataW H} {p : List MemPlace}
    (hv : Value.okWide Tryd.prog W .any base 23 v) (h : DataW.Trod enc Tryd.prog W 0 (fun _ => true) true 23 v d p) :
    ∃ x : Sea, v = slx x.t x.s x.x ∧ SeaI x := by
  obtain ⟨cs, n, rfl, hl, hk⟩ := open_fields Tryd.underlying23 (by kernel_rfl) cellsSealed rfl hv h
  obtain ⟨c0, y0, q0, h0⟩ := hk 0 _ rfl
  obtain ⟨c1, y1, q1, h1⟩ := hk 1 _ rfl
  obtain ⟨c2, y2, q2, h2⟩ := hk 2 _ rfl
  obtain rfl := openSealed_list hl q0 q1 q2
  obtain ⟨z0, e0, _, w0⟩ := DataW.trod_int Tryd.underlying3 h0
  obtain ⟨z1, e1, _, w1⟩ := DataW.trod_int Tryd.underlying3 h1
  obtain ⟨z2, e2, _, w2⟩ := DataW.trod_int Tryd.underlying3 h2
  simp only [List.cons.injEq, and_true] at e0 e1 e2
  subst e0 e1 e2
  exact ⟨⟨z0, z1, z2⟩, rfl, bounds_i64 w0, bounds_i64 w1, bounds_i64 w2⟩

end Go.Proofs.YtpenimbmonenpaaDoor
