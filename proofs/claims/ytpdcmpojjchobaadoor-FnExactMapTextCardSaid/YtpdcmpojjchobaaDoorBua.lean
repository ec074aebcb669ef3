/-
  Texts of this seat in one module: Hex, HexB, Far, Row, Mark, RowB, Mk, Bld, Law, Ints, OpenI, RdS, Txt, Dig, Spl, Spt, RulM, TxR, Fil, Name, Dirs, Dir, StepA, StepB, Step, SpB, NameB, SpanB.
-/
import Derived.Test.YtpdcmpojjchobaaDoorProg
import Derived.WalkKit
import Derived.WalkLawsBesides
import Derived.Below
import Derived.KernelRfl
import Derived.Lib.Hide
import Derived.LoopTactic
import Derived.IntWalk
import Derived.Laws.AppendOwn
import Derived.Laws.OwnMore
import Derived.OwnWalk
import Derived.Deep.RegionHeld3
import Derived.Maps.AppendAt
import Derived.Laws.MakeOwn
import Derived.Test.YtpdcmpojjchobaaDoorShelf
import Derived.Test.YtpdcmpojjchobaaDoorRows
import Derived.ProofKit
import Derived.OpenVars
import Derived.Lib.SmallJoins
import Derived.Deep.QuietTactic
import Derived.BigQuiet
import Derived.OpenShut
import Derived.Deep.Fields
import Derived.Deep.Slices
import Derived.Laws.BytesArg
import Derived.Lib.ItoaNum
import Derived.Lib.SplitLaws
import Derived.Lib.Join
import Derived.Lib.IndexBytes
import Derived.Lib.SlicesS
import Derived.RegionTactic
import Derived.BigRegion

/-
  The small functions on hexes (valid coordinates, valid hexes, copying and comparing hexes) return what plain functions on integers say, and change nothing that was there.
-/
namespace Go.Proofs.YtpdcmpojjchobaaDoor
open Go.RowKit

/-- Everything that lay in w lies in w' as it was. -/
def Kp (w w' : World) : Prop := Below w.heap.size w w'
theorem Kp.refl (w : World) : Kp w w := Below.refl _ _
theorem Kp.trans {a b c : World} (h : Kp a b) (k : Kp b c) : Kp a c := Below.trans h (Below.mono k (Below.size h))
theorem Kp.alloc {a w : World} (h : Kp a w) (o : Obj) : Kp a (w.alloc o) := Below.alloc h (Below.size h) o
theorem Kp.drew {a w : World} (h : Kp a w) : Kp a w.drew := Below.drew h
theorem Kp.drewN {a w : World} (h : Kp a w) (n : Nat) : Kp a (w.drewN n) := ⟨h.os, h.tape, h.output, h.size, h.block⟩
theorem Kp.setCell {a w : World} (h : Kp a w) {p : Addr} (hp : a.heap.size ≤ p.block) (u : Value) : Kp a (w.setCell p u) := Below.setCell h hp u
theorem Kp.cells {W w1 : World} (hb : Kp W w1) : (∀ b o, b < W.heap.size → w1.cell? ⟨b, o, none⟩ = W.cell? ⟨b, o, none⟩) ∧ (∀ b o, b < W.heap.size → w1.frozen? ⟨b, o, none⟩ = W.frozen? ⟨b, o, none⟩) :=
  ⟨fun b o h => Below.cell (p := ⟨b, o, none⟩) hb h, fun b o h => Below.frozen (p := ⟨b, o, none⟩) hb h⟩

theorem Kp.rules {W w1 : World} (hb : Kp W w1) : (∀ b o, b < W.heap.size → w1.cell? ⟨b, o, none⟩ = W.cell? ⟨b, o, none⟩) ∧ (∀ b o, b < W.heap.size → w1.frozen? ⟨b, o, none⟩ = W.frozen? ⟨b, o, none⟩) ∧
    (∀ b, b < W.heap.size → b < w1.heap.size) ∧ (∀ b, b < W.heap.size → b ≠ w1.heap.size) ∧ (∀ b, b < W.heap.size → w1.heap.size ≠ b) :=
  have hz : W.heap.size ≤ w1.heap.size := hb.size
  ⟨hb.cells.1, hb.cells.2, fun _ _ => by omega, fun _ _ => by omega, fun _ _ => by omega⟩
theorem Kp.cell {W w1 : World} (hk : Kp W w1) {p : Addr} {v : Value} (h : W.cell? p = some v) : w1.cell? p = some v := by
  have hlt : p.block < W.heap.size := by
    rcases Nat.lt_or_ge p.block W.heap.size with hlt | hge
    · exact hlt
    · simp [World.cell?, Array.getElem?_eq_none hge] at h
  rw [Below.cell hk hlt, h]
theorem Kp.two {W w1 : World} (hk : Kp W w1) {p0 p1 : Addr} {v0 v1 : Value} (h : W.cell? p0 = some v0 ∧ W.cell? p1 = some v1) : w1.cell? p0 = some v0 ∧ w1.cell? p1 = some v1 :=
  ⟨hk.cell h.1, hk.cell h.2⟩
theorem Kp.four {W w1 : World} (hk : Kp W w1) {p0 p1 p2 p3 : Addr} {v0 v1 v2 v3 : Value} (h : W.cell? p0 = some v0 ∧ W.cell? p1 = some v1 ∧ W.cell? p2 = some v2 ∧ W.cell? p3 = some v3) :
    w1.cell? p0 = some v0 ∧ w1.cell? p1 = some v1 ∧ w1.cell? p2 = some v2 ∧ w1.cell? p3 = some v3 := ⟨hk.cell h.1, hk.cell h.2.1, hk.cell h.2.2.1, hk.cell h.2.2.2⟩

abbrev hx (q r : Int) : Value := .agg #[.int .i64 q, .int .i64 r]
def okC (n : Int) : Bool := decide (-40 ≤ n) && decide (n ≤ 40)
def okH (q r : Int) : Bool := okC q && okC r

theorem okC_true {n : Int} (h : okC n = true) : -40 ≤ n ∧ n ≤ 40 := by simpa [okC] using h
theorem okC_mk {n : Int} (h : -40 ≤ n) (h' : n ≤ 40) : okC n = true := by simp [okC, h, h']
theorem okC_lo {n : Int} (h : ¬ -40 ≤ n) : okC n = false := by
  have h' : decide (-40 ≤ n) = false := by simpa using h
  simp only [okC, h', Bool.false_and]
theorem okC_hi {n : Int} (h : ¬ n ≤ 40) : okC n = false := by
  have h' : decide (n ≤ 40) = false := by simpa using h
  simp only [okC, h', Bool.and_false]
theorem okH_true {q r : Int} (h : okH q r = true) : -40 ≤ q ∧ q ≤ 40 ∧ -40 ≤ r ∧ r ≤ 40 := by
  simp only [okH, Bool.and_eq_true] at h
  exact ⟨(okC_true h.1).1, (okC_true h.1).2, (okC_true h.2).1, (okC_true h.2).2⟩
theorem okH_mk {q r : Int} (a : -40 ≤ q) (b : q ≤ 40) (c : -40 ≤ r) (d : r ≤ 40) : okH q r = true := by simp [okH, okC, a, b, c, d]

theorem ret_bool {a b : Bool} (h : a = b) : Ending.returned (.bool a) = .returned (.bool b) := by rw [h]
theorem ret_int {a b : Int} (h : a = b) : Ending.returned (.int .i64 a) = .returned (.int .i64 b) := by rw [h]

theorem l1In_any (n : Int) (w : World) :
    Calls Tryd.prog 30 #[.int .i64 n, .int .i64 (-40), .int .i64 40] w fun e w' => e = .returned (.bool (okC n)) ∧ w = w' := by
  by_cases h1 : -40 ≤ n
  · by_cases h2 : n ≤ 40
    · go_enter Tryd.func30, Tryd.ntmps30
      go_wp2
      go_ret
      exact ⟨ret_bool (okC_mk h1 h2).symm, rfl⟩
    · go_enter Tryd.func30, Tryd.ntmps30
      go_wp2
      go_ret
      exact ⟨ret_bool (okC_hi (by omega)).symm, rfl⟩
  · go_enter Tryd.func30, Tryd.ntmps30
    go_wp2
    go_ret
    exact ⟨ret_bool (okC_lo (by omega)).symm, rfl⟩


end Go.Proofs.YtpdcmpojjchobaaDoor

/-
  More small functions on hexes: differences, shifts, valid or zero, comparing. They return what plain functions on integers say, and change nothing that was there.
-/
namespace Go.Proofs.YtpdcmpojjchobaaDoor
open Go.RowKit

def vI (b : Bool) (x : Int) : Int := if b = true then x else 0
abbrev ib (b : Bool) (x : Int) : Value := .tuple #[.int .i64 (vI b x), .bool b]
theorem vI_true (x : Int) : vI true x = x := rfl
theorem vI_false (x : Int) : vI false x = 0 := rfl
abbrev hb3 (b : Bool) (q r : Int) : Value := .tuple #[hx (vI b q) (vI b r), .bool b]

theorem shifted_any (q r dq dr : Int) (w : World) (h1 : -1000 ≤ q) (h2 : q ≤ 1000) (h3 : -1000 ≤ r) (h4 : r ≤ 1000) (h5 : -1000 ≤ dq) (h6 : dq ≤ 1000) (h7 : -1000 ≤ dr) (h8 : dr ≤ 1000) :
    Calls Tryd.prog 162 #[hx q r, hx dq dr] w fun e w' => e = .returned (hx (q + dq) (r + dr)) ∧ Kp w w' := by
  go_enter Tryd.func162, Tryd.ntmps162
  go_wp2
  exact bodyPost_ret (v := hx (q + dq) (r + dr)) (by simp [results, Tryd.results162, go_sem]) rfl ⟨rfl, (((Kp.refl _).alloc _).alloc _).alloc _⟩

theorem l1In_gen (n lo hi : Int) (w : World) :
    Calls Tryd.prog 30 #[.int .i64 n, .int .i64 lo, .int .i64 hi] w fun e w' => e = .returned (.bool (decide (lo ≤ n) && decide (n ≤ hi))) ∧ w = w' := by
  by_cases h1 : lo ≤ n
  · by_cases h2 : n ≤ hi
    · go_enter Tryd.func30, Tryd.ntmps30
      go_wp2
      go_ret
      exact ⟨ret_bool (by simp [h1, h2]), rfl⟩
    · have d2 : decide (n ≤ hi) = false := by simpa using h2
      go_enter Tryd.func30, Tryd.ntmps30
      go_wp2
      go_ret
      exact ⟨ret_bool (by simp), rfl⟩
  · have d1 : decide (lo ≤ n) = false := by simpa using h1
    go_enter Tryd.func30, Tryd.ntmps30
    go_wp2
    go_ret
    exact ⟨ret_bool (by simp), rfl⟩

theorem hb3_eq {b b' : Bool} {q r q' r' : Int} (h : b = b') (hq : q = q') (hr : r = r') : hb3 b q r = hb3 b' q' r' := by rw [h, hq, hr]

end Go.Proofs.YtpdcmpojjchobaaDoor

/-
  Small facts on cells behind stores into another block. No program is looked into.
-/
namespace Go.Proofs.YtpdcmpojjchobaaDoor
open Go.RowKit

theorem far2 {w : World} {p : Addr} {v : Value} (h : w.cell? p = some v) {g i j : Nat} {X Y : Value} (hne : p.block ≠ g) : ((w.setCell ⟨g, i, none⟩ X).setCell ⟨g, j, none⟩ Y).cell? p = some v := by
  rw [World.cell?_setCell_other _ _ _ _ (fun e => hne (by rw [← e])), World.cell?_setCell_other _ _ _ _ (fun e => hne (by rw [← e])), h]
theorem far_four {w : World} {b0 b1 o0 o1 o2 o3 : Nat} {v0 v1 v2 v3 : Value} {g i j : Nat} {X Y : Value} (hne : b0 ≠ g ∧ b1 ≠ g)
    (h : w.cell? ⟨b0, o0, none⟩ = some v0 ∧ w.cell? ⟨b0, o1, none⟩ = some v1 ∧ w.cell? ⟨b1, o2, none⟩ = some v2 ∧ w.cell? ⟨b1, o3, none⟩ = some v3) :
    ((w.setCell ⟨g, i, none⟩ X).setCell ⟨g, j, none⟩ Y).cell? ⟨b0, o0, none⟩ = some v0 ∧ ((w.setCell ⟨g, i, none⟩ X).setCell ⟨g, j, none⟩ Y).cell? ⟨b0, o1, none⟩ = some v1 ∧ ((w.setCell ⟨g, i, none⟩ X).setCell ⟨g, j, none⟩ Y).cell? ⟨b1, o2, none⟩ = some v2 ∧ ((w.setCell ⟨g, i, none⟩ X).setCell ⟨g, j, none⟩ Y).cell? ⟨b1, o3, none⟩ = some v3 :=
  ⟨far2 h.1 hne.1, far2 h.2.1 hne.1, far2 h.2.2.1 hne.2, far2 h.2.2.2 hne.2⟩
theorem far_two {w : World} {b0 o0 o1 : Nat} {v0 v1 : Value} {g i j : Nat} {X Y : Value} (hne : b0 ≠ g) (h : w.cell? ⟨b0, o0, none⟩ = some v0 ∧ w.cell? ⟨b0, o1, none⟩ = some v1) :
    ((w.setCell ⟨g, i, none⟩ X).setCell ⟨g, j, none⟩ Y).cell? ⟨b0, o0, none⟩ = some v0 ∧ ((w.setCell ⟨g, i, none⟩ X).setCell ⟨g, j, none⟩ Y).cell? ⟨b0, o1, none⟩ = some v1 :=
  ⟨far2 h.1 hne, far2 h.2 hne⟩

theorem cell_lt {w : World} {b o : Nat} {v : Value} (h : w.cell? ⟨b, o, none⟩ = some v) : b < w.heap.size := by
  rcases Nat.lt_or_ge b w.heap.size with hlt | hge
  · exact hlt
  · simp [World.cell?, Array.getElem?_eq_none hge] at h
theorem Kp.liv {W w1 : World} (hk : Kp W w1) {p : Addr} {v : Value} (h : W.cell? p = some v ∧ W.frozen? p = false) : w1.cell? p = some v ∧ w1.frozen? p = false := by
  have hlt : p.block < W.heap.size := by
    rcases Nat.lt_or_ge p.block W.heap.size with hlt | hge
    · exact hlt
    · have := h.1
      simp [World.cell?, Array.getElem?_eq_none hge] at this
  exact ⟨hk.cell h.1, (Below.frozen hk hlt).trans h.2⟩

end Go.Proofs.YtpdcmpojjchobaaDoor

/-
  Slices of hexes as lists of pairs of integers; comparing two that hold the same list, marking one's cells and finding the marks again. Nothing else is changed.
-/
namespace Go.Proofs.YtpdcmpojjchobaaDoor
open Go.RowKit

theorem Kp.grown {a w w' : World} {row : Option Nat} (h : Kp a w) (hg : w.grownBy w' row) (hr : ∀ k, row = some k → a.heap.size ≤ k) : Kp a w' := Below.grown h hg (Below.size h) hr

/-- The slice v reads as the list l of hexes. -/
def RdH (w : World) (v : Value) (l : List (Int × Int)) : Prop :=
  ∃ A c, v = .slice A l.length c ∧ (0 < l.length → ∃ g off, A = some ⟨g, off, none⟩ ∧ ∀ i x, l[i]? = some x → w.cell? ⟨g, off + i * 2, none⟩ = some (.int .i64 x.1) ∧ w.cell? ⟨g, off + i * 2 + 1, none⟩ = some (.int .i64 x.2))
theorem RdH.keep {w w' : World} {v : Value} {l : List (Int × Int)} (h : RdH w v l) (hk : Kp w w') : RdH w' v l := by
  obtain ⟨A, c, rfl, h⟩ := h
  refine ⟨A, c, rfl, fun h0 => ?_⟩
  obtain ⟨g, off, rfl, hc⟩ := h h0
  exact ⟨g, off, rfl, fun i x hx => ⟨hk.cell (hc i x hx).1, hk.cell (hc i x hx).2⟩⟩

/-- The cells of a list of hexes. -/
def cellsH : List (Int × Int) → List Value
  | [] => []
  | x :: l => .int .i64 x.1 :: .int .i64 x.2 :: cellsH l
theorem cellsH_length : ∀ l, (cellsH l).length = l.length * 2
  | [] => rfl
  | x :: l => by simp only [cellsH, List.length_cons, cellsH_length l]; omega
theorem cellsH_append : ∀ l m, cellsH (l ++ m) = cellsH l ++ cellsH m
  | [], _ => rfl
  | x :: l, m => by simp only [cellsH, List.cons_append, cellsH_append l m]
theorem cellsH_at : ∀ (l : List (Int × Int)) (i : Nat) (x : Int × Int), l[i]? = some x → (cellsH l)[i * 2]? = some (.int .i64 x.1) ∧ (cellsH l)[i * 2 + 1]? = some (.int .i64 x.2)
  | [], _, _, h => by simp at h
  | y :: l, 0, x, h => by
    simp only [List.getElem?_cons_zero, Option.some.injEq] at h
    subst h
    exact ⟨rfl, rfl⟩
  | y :: l, i + 1, x, h => by
    have := cellsH_at l i x (by simpa using h)
    have e1 : (i + 1) * 2 = i * 2 + 1 + 1 := by omega
    rw [e1]
    exact ⟨by simpa [cellsH] using this.1, by simpa [cellsH] using this.2⟩

/-- The slice v owns the list l of hexes, in a block from base on. -/
def OwnH (w : World) (base : Nat) (v : Value) (l : List (Int × Int)) : Prop := w.ownsRow base 169 2 v l.length (cellsH l)
theorem OwnH.rd {w : World} {base : Nat} {v : Value} {l : List (Int × Int)} (h : OwnH w base v l) : RdH w v l := by
  rcases h.2 with ⟨rfl, hn⟩ | ⟨g, cap, cur, rfl, hb, hg, hc, hm, hs, ht⟩
  · exact ⟨none, 0, by rw [hn], fun h0 => by omega⟩
  · refine ⟨_, _, rfl, fun _ => ⟨g, 0, rfl, fun i x hx => ?_⟩⟩
    have hi : i < l.length := (List.getElem?_eq_some_iff.1 hx).1
    have e := cellsH_at l i x hx
    rw [Nat.zero_add]
    exact ⟨(World.ownsRow.cellAt h (i * 2) (by omega)).trans e.1, (World.ownsRow.cellAt h (i * 2 + 1) (by omega)).trans e.2⟩
theorem ownsRow_keep {w w' : World} {base : Nat} {e : TypeId} {size : Nat} {v : Value} {n : Nat} {xs : List Value} (h : w.ownsRow base e size v n xs) (hk : Kp w w') : w'.ownsRow base e size v n xs :=
  h.kept (row := none) ⟨hk.os, hk.tape, hk.output, hk.size, fun k hlt _ => hk.block k hlt⟩ (by cases hv : v.ownBlock <;> simp)
theorem OwnH.keep {w w' : World} {base : Nat} {v : Value} {l : List (Int × Int)} (h : OwnH w base v l) (hk : Kp w w') : OwnH w' base v l := ownsRow_keep h hk

end Go.Proofs.YtpdcmpojjchobaaDoor

/-
  Marking the cells of a slice of hexes that the call owns with k, k+1, .., and finding the marks again.
-/
namespace Go.Proofs.YtpdcmpojjchobaaDoor
open Go.RowKit

def marks (k0 : Int) (m : Nat) : List Value := (List.range m).map fun j : Nat => .int .i64 (k0 + (j : Int))
theorem marks_at (k0 : Int) (m j : Nat) (h : j < m) : (marks k0 m)[j]? = some (.int .i64 (k0 + j)) := by simp [marks, h]
theorem marks_length (k0 : Int) (m : Nat) : (marks k0 m).length = m := by simp [marks]

theorem marks_step (k0 : Int) (xs : List Value) (t n : Nat) (hl : xs.length = n * 2) (ht : t < n) :
    ((marks k0 (t * 2) ++ xs.drop (t * 2)).set (t * 2) (.int .i64 (k0 + (t * 2 : Nat)))).set (t * 2 + 1) (.int .i64 (k0 + (t * 2 + 1 : Nat))) = marks k0 ((t + 1) * 2) ++ xs.drop ((t + 1) * 2) := by
  apply List.ext_getElem?
  intro j
  rw [List.getElem?_set, List.getElem?_set]
  simp only [List.length_set, List.length_append, marks_length, List.length_drop]
  by_cases h1 : t * 2 + 1 = j
  · subst h1
    rw [if_pos rfl, if_pos (by omega), List.getElem?_append_left (by rw [marks_length]; omega), marks_at _ _ _ (by omega)]
  · rw [if_neg h1]
    by_cases h2 : t * 2 = j
    · subst h2
      rw [if_pos rfl, if_pos (by omega), List.getElem?_append_left (by rw [marks_length]; omega), marks_at _ _ _ (by omega)]
    · rw [if_neg h2]
      by_cases h3 : j < t * 2
      · rw [List.getElem?_append_left (by rw [marks_length]; omega), List.getElem?_append_left (by rw [marks_length]; omega), marks_at _ _ _ h3, marks_at _ _ _ (by omega)]
      · rw [List.getElem?_append_right (by rw [marks_length]; omega), List.getElem?_append_right (by rw [marks_length]; omega), marks_length, marks_length, List.getElem?_drop, List.getElem?_drop]
        congr 1
        omega

end Go.Proofs.YtpdcmpojjchobaaDoor

/-
  What a function says that returns a new list of hexes and true, or none and false; small facts on slices of hexes that a call owns.
-/
namespace Go.Proofs.YtpdcmpojjchobaaDoor
open Go.RowKit

def allOk (l : List (Int × Int)) : Bool := l.all fun x => okH x.1 x.2
theorem allOk_false {l : List (Int × Int)} {i : Nat} {x : Int × Int} (hx : l[i]? = some x) (h : okH x.1 x.2 = false) : allOk l = false := by
  unfold allOk
  rw [List.all_eq_false]
  exact ⟨x, List.mem_of_getElem? hx, by simp [h]⟩
theorem allOk_true {l : List (Int × Int)} (h : ∀ (i : Nat) x, l[i]? = some x → okH x.1 x.2 = true) : allOk l = true := by
  unfold allOk
  rw [List.all_eq_true]
  intro x hx
  obtain ⟨i, hi, rfl⟩ := List.mem_iff_getElem.1 hx
  exact h i _ (List.getElem?_eq_getElem hi)

/-- A new list of hexes and true, or none and false. -/
def ListPost (ok : Bool) (l : List (Int × Int)) (w : World) (e : Ending) (w' : World) : Prop :=
  ∃ v, e = .returned (.tuple #[v, .bool ok]) ∧ OwnH w' w.heap.size v (if ok = true then l else []) ∧ Kp w w'
theorem OwnH.nil (w : World) (base : Nat) : OwnH w base (.slice none 0 0) [] := World.ownsRow_nil w base _ 2
theorem ListPost.no {l : List (Int × Int)} {w w' : World} (hk : Kp w w') : ListPost false l w (.returned (.tuple #[.slice none 0 0, .bool false])) w' := ⟨_, rfl, OwnH.nil _ _, hk⟩

theorem grown_set (w : World) (g j : Nat) (u : Value) : w.grownBy (w.setCell ⟨g, j, none⟩ u) (some g) :=
  ⟨rfl, rfl, rfl, by simp, fun k _ hk => heap_setCell_other w ⟨g, j, none⟩ k u (fun e => hk (by simp [e]))⟩
theorem OwnH.far {w : World} {base : Nat} {v : Value} {l : List (Int × Int)} (h : OwnH w base v l) {g j : Nat} (hne : v.ownBlock ≠ some g) (u : Value) : OwnH (w.setCell ⟨g, j, none⟩ u) base v l :=
  World.ownsRow.kept h (grown_set w g j u) (.inr hne)
theorem OwnH.snoc {w : World} {base : Nat} {v : Value} {l : List (Int × Int)} {x : Int × Int} (h : w.ownsRow base 169 2 v (l.length + 1) (cellsH l ++ [.int .i64 x.1, .int .i64 x.2])) : OwnH w base v (l ++ [x]) := by
  unfold OwnH
  rw [cellsH_append, List.length_append]
  exact h
theorem OwnH.block {w : World} {base : Nat} {v : Value} {l : List (Int × Int)} (h : OwnH w base v l) (g : Nat) (hg : w.heap.size ≤ g) : v.ownBlock ≠ some g := fun e => by
  have := (World.ownsRow.lt h g e).2
  omega
theorem OwnH.from_ {w : World} {base : Nat} {v : Value} {l : List (Int × Int)} (h : OwnH w base v l) : ∀ k, v.ownBlock = some k → base ≤ k := fun k e => (World.ownsRow.lt h k e).1
theorem grown_frozen {w w' : World} {row : Option Nat} (hg : w.grownBy w' row) {b o : Nat} {v : Value} (h : w.cell? ⟨b, o, none⟩ = some v) (hne : some b ≠ row) (hf : w.frozen? ⟨b, o, none⟩ = false) : w'.frozen? ⟨b, o, none⟩ = false :=
  (World.frozen?_of_block (hg.block b (cell_lt h) hne)).trans hf

theorem infoHex : (Tryd.prog.info? 169).map (fun i => (i.zero, i.size, i.bytes)) = some (some (hx 0 0), 2, 16) := by kernel_rfl
theorem two_new (w : World) (x y : Value) (t : TypeId) : ∀ j u, [x, y][j]? = some u → (w.alloc (.cells #[x, y] t)).cell? ((⟨w.heap.size, 0, none⟩ : Addr).add j) = some u := by
  intro j u hj
  match j, hj with
  | 0, hj => simp at hj; subst hj; simp [Addr.add]
  | 1, hj => simp at hj; subst hj; simp [Addr.add]

end Go.Proofs.YtpdcmpojjchobaaDoor

/-
  Worlds that differ in some blocks alone: below a number, and from another one on, all is as it was.
-/
namespace Go.Proofs.YtpdcmpojjchobaaDoor
open Go.RowKit

/-- Below lo, and from hi on, all that lay there is as it was. -/
def Mk (lo hi : Nat) (w w' : World) : Prop := Below lo w w' ∧ ∀ b, hi ≤ b → b < w.heap.size → w'.heap[b]? = w.heap[b]?
theorem Mk.refl (lo hi : Nat) (w : World) : Mk lo hi w w := ⟨Below.refl _ _, fun _ _ _ => rfl⟩
theorem Mk.trans {lo hi : Nat} {a b c : World} (h : Mk lo hi a b) (k : Mk lo hi b c) : Mk lo hi a c :=
  ⟨Below.trans h.1 k.1, fun n hn hs => (k.2 n hn (Nat.lt_of_lt_of_le hs h.1.size)).trans (h.2 n hn hs)⟩
theorem Mk.of_kp {lo hi : Nat} {w w' : World} (k : Kp w w') (h : lo ≤ w.heap.size) : Mk lo hi w w' := ⟨Below.mono k h, fun b _ hb => k.block b hb⟩
theorem Mk.set {lo hi : Nat} {a w : World} (h : Mk lo hi a w) {b j : Nat} (h1 : lo ≤ b) (h2 : b < hi) (u : Value) : Mk lo hi a (w.setCell ⟨b, j, none⟩ u) :=
  ⟨Below.setCell h.1 h1 u, fun n hn hs => (Below.heap_setCell w ⟨b, j, none⟩ u n (by simp only; omega)).trans (h.2 n hn hs)⟩
theorem Mk.grown {lo hi : Nat} {a w w' : World} {row : Option Nat} (h : Mk lo hi a w) (g : w.grownBy w' row) (hs : lo ≤ w.heap.size) (hr : ∀ k, row = some k → lo ≤ k ∧ k < hi) : Mk lo hi a w' :=
  ⟨Below.grown h.1 g hs (fun k e => (hr k e).1), fun n hn hz => ((let ⟨_, _, _, _, gb⟩ := g; gb) n (Nat.lt_of_lt_of_le hz h.1.size) (fun e => by have := (hr n e.symm).2; omega)).trans (h.2 n hn hz)⟩
theorem Mk.kp {lo hi : Nat} {w w' W0 : World} (h : Mk lo hi w w') (k : Kp W0 w) (hb : W0.heap.size ≤ lo) : Kp W0 w' := Below.trans k (Below.mono h.1 hb)
theorem Mk.own {lo hi base sz n : Nat} {w w' : World} {e : TypeId} {v : Value} {xs : List Value} (h : Mk lo hi w w') (o : w.ownsRow base e sz v n xs) (hb : ∀ g, v.ownBlock = some g → hi ≤ g) : w'.ownsRow base e sz v n xs := by
  obtain ⟨hl, hv⟩ := o
  refine ⟨hl, ?_⟩
  rcases hv with h0 | ⟨g, cap, cur, rfl, h1, h2, h3⟩
  · exact .inl h0
  · have hg : g < w.heap.size := (Array.getElem?_eq_some_iff.1 h2).1
    exact .inr ⟨g, cap, cur, rfl, h1, by rw [h.2 g (hb g rfl) hg]; exact h2, h3⟩

end Go.Proofs.YtpdcmpojjchobaaDoor

/-
  strings.Builder in a seat whose cut leaves copyCheck's panic out: copyCheck and WriteString, over the library's own words for a builder.
-/
namespace Go.Proofs.YtpdcmpojjchobaaDoor
open Go.RowKit Go.Shelf

set_option maxRecDepth 100000 in
theorem copyCheck_used (b : Nat) (w : World) (h0 : w.cell? ⟨b, 0, none⟩ = some (.pointer (some ⟨b, 0, none⟩))) :
    Calls Tryd.prog 88 #[.pointer (some ⟨b, 0, none⟩)] w fun e w' => e = .returned (.tuple #[]) ∧ w' = w := by
  obtain ⟨j, hj, _⟩ := Option.map_eq_some_iff.1 Tryd.Builder_Extra_169.sizeBuilder
  go_enter Tryd.func88, Tryd.ntmps88
  go_wp2
  rw [Lib.run_neq_ptr_same w _ Tryd.underlying72 hj]
  go_wp2
  go_end0
  exact ⟨rfl, rfl⟩

set_option maxHeartbeats 1000000 in
set_option maxRecDepth 100000 in
theorem copyCheck_fresh (b : Nat) (w : World) (h0 : w.cell? ⟨b, 0, none⟩ = some (.pointer none)) (hsh : w.shape? b = some (75, 2)) (hfz : w.frozen? ⟨b, 0, none⟩ = false) :
    Calls Tryd.prog 88 #[.pointer (some ⟨b, 0, none⟩)] w fun e w' => e = .returned (.tuple #[]) ∧ w' = w.setCell ⟨b, 0, none⟩ (.pointer (some ⟨b, 0, none⟩)) := by
  obtain ⟨j, hj, hjs⟩ := Option.map_eq_some_iff.1 Tryd.Builder_Extra_169.sizeBuilder
  go_enter Tryd.func88, Tryd.ntmps88
  go_wp2
  rw [Lib.run_to_unsafe w ⟨b, 0, none⟩ Tryd.underlying72 Tryd.underlying145 hj (by rw [hjs]; decide) hsh (Nat.zero_lt_succ 1)]
  simp only [Result.andThen]
  rw [Oper.upon_value]
  go_wp2
  rw [run_callFunc_extern Tryd.func115 (by kernel_rfl) (by kernel_rfl) (by kernel_rfl) (e := Extern.AbiNoEscape.same) (by kernel_rfl)]
  rw [Lib.run_noEscape]
  simp only [Result.andThen]
  rw [Oper.upon_value]
  go_wp2
  rw [Lib.run_from_unsafe w ⟨b, 0, none⟩ Tryd.underlying145 Tryd.underlying72 hj hsh Tryd.Builder_Extra_169.liesBuilder]
  simp only [Result.andThen]
  rw [Oper.upon_value]
  go_wp2
  go_end0
  exact ⟨rfl, rfl⟩

theorem copyCheck_any (B b : Nat) (bs : List Value) (w : World) (h : Lib.IsBuilder 75 5 B b bs w) :
    Calls Tryd.prog 88 #[.pointer (some ⟨b, 0, none⟩)] w fun e w' => e = .returned (.tuple #[]) ∧ Lib.BuilderAt 75 5 B b (.pointer (some ⟨b, 0, none⟩)) bs w' ∧ Below B w w' := by
  rcases h with h | h
  · refine (copyCheck_fresh b w h.cell0 h.shape h.frozen0).mono ?_
    rintro e w' ⟨rfl, rfl⟩
    exact ⟨rfl, h.used _, (Below.refl B w).setCell (p := ⟨b, 0, none⟩) h.1 _⟩
  · refine (copyCheck_used b w h.cell0).mono ?_
    rintro e w' ⟨rfl, rfl⟩
    exact ⟨rfl, h, Below.refl B _⟩

set_option maxHeartbeats 2000000 in
set_option maxRecDepth 100000 in
/-- A text written behind what a builder holds. -/
theorem writeString_any (B b : Nat) (bs : List Value) (s : ByteArray) (w : World) (h : Lib.IsBuilder 75 5 B b bs w) (hlen : bs.length + s.size ≤ 140737488355328) (hBw : B ≤ w.heap.size) :
    Calls Tryd.prog 43 #[.pointer (some ⟨b, 0, none⟩), .string s] w fun e w' => (∃ r, e = .returned r) ∧ Lib.BuilderAt 75 5 B b (.pointer (some ⟨b, 0, none⟩)) (bs ++ Lib.strCells s) w' ∧ Below B w w' := by
  obtain ⟨i0, hi, hz⟩ := Option.map_eq_some_iff.1 Tryd.Builder_Extra_169.infoByte
  have hz0 : i0.zero = some (.int .u8 0) := congrArg (·.1) hz
  have hz1 : i0.size = 1 := congrArg (·.2.1) hz
  have hz2 : i0.bytes = 1 := congrArg (·.2.2) hz
  go_enter Tryd.func43, Tryd.ntmps43
  go_wp2_with fail
  refine (copyCheck_any B b bs _ h).mono ?_
  rintro e w1 ⟨rfl, h1, hb1⟩
  obtain ⟨hB, v, hbk, hown, hne⟩ := h1
  have c0 : w1.cell? ⟨b, 0, none⟩ = some (.pointer (some ⟨b, 0, none⟩)) := by rw [Lib.cell_of_heap hbk]; rfl
  have c1 : w1.cell? ⟨b, 1, none⟩ = some v := by rw [Lib.cell_of_heap hbk]; rfl
  go_wp2_with (at_builtin; refine Lib.wpList_append_own_string _ rfl _ _ 73 9 rfl B 5 i0 Tryd.underlying73 Tryd.underlying9 hi hz0 hz1 hz2 _ _ _ rfl hown s rfl ?c3 ?c4 ?c5 ?_)
  case c3 => unfold maxLen; omega
  case c4 => omega
  case c5 => have := hb1.size; omega
  intro v' w2 hown' hgrow _
  have hlt : b < w1.heap.size := by
    rcases Nat.lt_or_ge b w1.heap.size with h' | h'
    · exact h'
    · simp [Array.getElem?_eq_none h'] at hbk
  have hb2 : w2.heap[b]? = some (.cells #[.pointer (some ⟨b, 0, none⟩), v] 75 (0, 0)) := by
    rw [hgrow.block b hlt (fun e => hne e.symm)]
    exact hbk
  have d0 : w2.cell? ⟨b, 0, none⟩ = some (.pointer (some ⟨b, 0, none⟩)) := by rw [Lib.cell_of_heap hb2]; rfl
  have d1 : w2.cell? ⟨b, 1, none⟩ = some v := by rw [Lib.cell_of_heap hb2]; rfl
  have f1 : w2.frozen? ⟨b, 1, none⟩ = false := Lib.frozen_of_heap hb2 1
  obtain ⟨ao, n', cap, rfl⟩ : ∃ ao n' cap, v' = .slice ao n' cap := by
    rcases hown'.2 with ⟨hv, _⟩ | ⟨g, cap, cur, hv, _⟩
    · exact ⟨_, _, _, hv⟩
    · exact ⟨_, _, _, hv⟩
  go_wp2
  go_ret2
  refine ⟨⟨_, rfl⟩, ?_, ?_⟩
  · exact Lib.BuilderAt.put (T := 75) (e := 5) hB hb2 (bs' := bs ++ Lib.strCells s) (by simpa [Lib.strCells_length] using hown') Tryd.Builder_Extra_169.neB5
  · exact (hb1.grown hgrow (by have := hb1.size; omega) (fun k hk => (hown.lt k hk).1)).setCell (p := ⟨b, 1, none⟩) hB _
end Go.Proofs.YtpdcmpojjchobaaDoor

/-
  A law that returns true and leaves all old memory as it was meets its row: the arguments and the named variables read as before. No program is looked into here.
-/
namespace Go.Proofs.YtpdcmpojjchobaaDoor
open Go.ChangeShapes Go.WideShapes Go.ChangeAt Go.RowKit Go.Joins

/-- Each type of the list can be read and is a row of the program's table. -/
def rowedAll (P : Program) (ts : List TypeId) : Bool := ts.all fun t => P.readableRec t && decide (t < P.types.size)

theorem args_kept {H : Type} {enc : TypeId × Value → H} {P : Program} (hl : laidOutB P = true) {W W' : World} (hb : Below W.heap.size W W') :
    ∀ (ts : List TypeId) (vs : List Value) (ds : List (DataW H)) (ps : List MemPlace), rowedAll P ts = true → (∀ x ∈ ps, x.block < W.heap.size) →
      DataW.TrodAll enc P W 0 (fun _ => true) true ts vs ds ps → DataW.TrodAll enc P W' 0 (fun b => decide (b < W.heap.size)) true ts vs ds ps
  | [], [], [], _, _, _, h => h
  | t :: ts, v :: vs, d :: ds, ps, hr, hlt, h => by
    obtain ⟨p, q, h1, h2, rfl⟩ := h
    simp only [rowedAll, List.all_cons, Bool.and_eq_true] at hr
    exact ⟨p, q, Below.trod hl hr.1.1 (of_decide_eq_true hr.1.2) h1 hb (fun x hx => hlt x (List.mem_append_left _ hx)),
      args_kept hl hb ts vs ds q (by simpa [rowedAll] using hr.2) (fun x hx => hlt x (List.mem_append_right _ hx)) h2, rfl⟩
  | [], [], _ :: _, _, _, _, h => h.elim
  | [], _ :: _, _, _, _, _, h => h.elim
  | _ :: _, [], _, _, _, _, h => h.elim
  | _ :: _, _ :: _, [], _, _, _, h => h.elim

theorem law_post {H : Type} {enc : TypeId × Value → H} {P : Program} {f : Func} {s : ChangeSpec} {apart fresh handsOn : Bool} {W W' : World} {args : Array Value} {ds gs : List (DataW H)} {before : List MemPlace} {tb : TypeId}
    (hW : DataW.Whole enc P f.params.toList s.vars apart W args.toList ds gs before)
    (hl : laidOutB P = true) (hr : rowedAll P f.params.toList = true) (hv : varsRowed P s.vars = true)
    (hres : f.resultTypes = #[tb]) (htb : P.underlying tb = some .bool)
    (hfn : s.fn H (ds ++ gs) = { results := [.lit (.bool true)], args := ds, vars := gs }) (hb : Below W.heap.size W W') :
    s.post enc P f apart fresh handsOn false W args (.bool true) W' := by
  have hlt := hW.lt
  have hW0 := hW
  obtain ⟨p, q, hA, hV, rfl, _, _⟩ := hW
  refine ⟨ds, gs, p ++ q, [], p, q, hW0, ?_, ?_, ?_, hb.frame _, fun h => by cases h⟩
  · rw [hfn, hres]
    exact trodAll_mk1 (shut_bool htb true)
  · rw [hfn]
    exact args_kept hl hb _ _ _ _ hr (fun x hx => hlt x (List.mem_append_left _ hx)) hA
  · rw [hfn]
    exact Below.trodVars hl hb hv hV

theorem own : ownKnob Tryd.prog.godebug = none := by kernel_rfl
theorem laidOut : laidOutB Tryd.prog = true := by kernel_rfl
end Go.Proofs.YtpdcmpojjchobaaDoor

/-
  Slices of integers as lists: copying one, comparing two that hold the same list, marking one that the call owns.
-/
namespace Go.Proofs.YtpdcmpojjchobaaDoor
open Go.RowKit

/-- The slice v reads as the list l of integers. -/
def RdI (w : World) (v : Value) (l : List Int) : Prop :=
  ∃ A c, v = .slice A l.length c ∧ (0 < l.length → ∃ g off, A = some ⟨g, off, none⟩ ∧ ∀ i x, l[i]? = some x → w.cell? ⟨g, off + i, none⟩ = some (.int .i64 x))
theorem RdI.keep {w w' : World} {v : Value} {l : List Int} (h : RdI w v l) (hk : Kp w w') : RdI w' v l := by
  obtain ⟨A, c, rfl, h⟩ := h
  refine ⟨A, c, rfl, fun h0 => ?_⟩
  obtain ⟨g, off, rfl, hc⟩ := h h0
  exact ⟨g, off, rfl, fun i x hx => hk.cell (hc i x hx)⟩
def cellsI (l : List Int) : List Value := l.map fun x => .int .i64 x
def OwnI (w : World) (base : Nat) (v : Value) (l : List Int) : Prop := w.ownsRow base 3 1 v l.length (cellsI l)
theorem OwnI.rd {w : World} {base : Nat} {v : Value} {l : List Int} (h : OwnI w base v l) : RdI w v l := by
  rcases h.2 with ⟨rfl, hn⟩ | ⟨g, cap, cur, rfl, hb, hg, hc, hm, hs, ht⟩
  · exact ⟨none, 0, by rw [hn], fun h0 => by omega⟩
  · refine ⟨_, _, rfl, fun _ => ⟨g, 0, rfl, fun i x hx => ?_⟩⟩
    have hi : i < l.length := (List.getElem?_eq_some_iff.1 hx).1
    rw [Nat.zero_add]
    exact (World.ownsRow.cellAt h i (by omega)).trans (by simp [cellsI, hx])
theorem OwnI.keep {w w' : World} {base : Nat} {v : Value} {l : List Int} (h : OwnI w base v l) (hk : Kp w w') : OwnI w' base v l := ownsRow_keep h hk

theorem infoInt : (Tryd.prog.info? 3).map (fun i => (i.zero, i.size, i.bytes)) = some (some (.int .i64 0), 1, 8) := by kernel_rfl
theorem mkInts (n : Nat) (hn : n ≤ 1048576) (w : World) :
    (Instr.makeSlice 38 (.int .i64 (n : Int)) (.int .i64 (n : Int))).run Tryd.prog w = .ok (.slice (some ⟨w.heap.size, 0, none⟩) n n) (w.alloc (.cells (madeCells #[.int .i64 0] n) 3)) := by
  obtain ⟨i, hi, hz, hs, hb⟩ := info_parts infoInt
  have hr := run_make (P := Tryd.prog) w 38 3 i (.int .i64 0) Tryd.underlying38 hi hz .i64 .i64 (n : Int) (n : Int) (by omega) (Int.le_refl _) (by rw [hb]; omega) (by omega)
  rw [hs, Int.toNat_natCast, Nat.mul_one] at hr
  exact hr

theorem toIntS_any (v : Value) (l : List Int) (w : World) (h : RdI w v l) (hl : l.length ≤ 1048576) :
    Calls Tryd.prog 49 #[v] w fun e w' => ∃ v', e = .returned v' ∧ OwnI w' w.heap.size v' l ∧ Kp w w' := by
  obtain ⟨A, c, rfl, h⟩ := h
  have HA := Lib.hid h
  clear h
  obtain ⟨n, hn⟩ : ∃ n, l.length = n := ⟨_, rfl⟩
  have HN := Lib.hid hn
  rw [hn] at hl ⊢
  rw [hn] at HA
  clear hn
  have hmk := fun w => mkInts n hl w
  have own0 : (w.alloc (.cells (madeCells #[.int .i64 0] n) 3)).ownsRow w.heap.size 3 1 (.slice (some ⟨w.heap.size, 0, none⟩) n n) n (madeCells #[.int .i64 0] n).toList :=
    World.ownsRow_lit w _ n (Nat.le_refl _) (by simp only [maxLen]; omega) (by rw [size_madeCells, Nat.mul_one])
  go_enter Tryd.func49, Tryd.ntmps49
  go_wp2_with fail
  go_loopw [4] (fun i wr => ∃ k : Nat, k ≤ n ∧ i = .int .i64 k ∧ (∃ ys, wr.ownsRow w.heap.size 3 1 (.slice (some ⟨w.heap.size, 0, none⟩) n n) n ys ∧ ∀ j x, j < k → l[j]? = some x → ys[j]? = some (.int .i64 x)) ∧ Kp w wr) (fun i _ => n - (intOf i).toNat)
  case atStart => exact ⟨0, by omega, rfl, ⟨_, own0, fun j x hj => absurd hj (by omega)⟩, (Kp.refl _).alloc _⟩
  case round =>
    clear own0
    obtain ⟨k, hk, rfl, ⟨ys, ho, hys⟩, kr⟩ := hrel
    have HY := Lib.hid hys
    clear hys
    by_cases hlt : k < n
    · have hlt' : (k : Int) < n := by omega
      obtain ⟨g, off, rfl, hc⟩ := HA.out (by omega)
      obtain ⟨x, hx⟩ : ∃ x, l[k]? = some x := ⟨l[k]'(by have := HN.out; omega), List.getElem?_eq_getElem _⟩
      have a0 := kr.cell (hc k x hx)
      have HX := Lib.hid hx
      have hlen : ys.length = n * 1 := ho.1
      obtain ⟨u0, hu0⟩ : ∃ u, wr.cell? ⟨w.heap.size, k, none⟩ = some u := ⟨_, (ho.cellAt k (by omega)).trans (List.getElem?_eq_getElem (by omega))⟩
      have f0 := ho.frozenAt k
      have HLen := Lib.hid hlen
      clear hc hx hlen
      go_wp2_with fail
      go_roundw
      case rel =>
        obtain ⟨o1, g1⟩ := ho.stored k (.int .i64 x)
        refine ⟨k + 1, by omega, by go_num, ⟨_, o1, fun j y hj hy => ?_⟩, kr.setCell (by simp) _⟩
        rw [List.getElem?_set]
        by_cases e : k = j
        · subst e
          rw [HX.out] at hy
          obtain rfl := Option.some.inj hy
          have := HLen.out
          rw [if_pos rfl, if_pos (by omega)]
        · rw [if_neg e]
          exact HY.out j y (by omega) hy
      case measure => simp [intOf]; omega
    · obtain rfl : k = n := by omega
      go_wp2_with fail
      go_ret
      have e : ys = cellsI l := by
        apply List.ext_getElem?
        intro j
        have hl1 : ys.length = k * 1 := ho.1
        have hl2 := HN.out
        by_cases hj : j < k
        · have hx : l[j]? = some (l[j]'(by omega)) := List.getElem?_eq_getElem _
          rw [HY.out j _ hj hx]
          simp [cellsI, hx]
        · rw [List.getElem?_eq_none (by omega), List.getElem?_eq_none (by simp [cellsI]; omega)]
      refine ⟨_, rfl, ?_, kr⟩
      unfold OwnI
      rw [HN.out, ← e]
      exact ho

theorem eqIntS_same (va vb : Value) (l : List Int) (w : World) (ha : RdI w va l) (hb : RdI w vb l) (hl : l.length ≤ 1048576) :
    Calls Tryd.prog 53 #[va, vb] w fun e w' => e = .returned (.bool true) ∧ Kp w w' := by
  obtain ⟨A, ca, rfl, ha⟩ := ha
  obtain ⟨B, cb, rfl, hb⟩ := hb
  have HA := Lib.hid ha
  have HB := Lib.hid hb
  clear ha hb
  generalize hn : l.length = n at *
  have HN := Lib.hid hn
  clear hn
  go_enter Tryd.func53, Tryd.ntmps53
  go_wp2_with fail
  go_loopw [5] (fun i wr => ∃ k : Nat, k ≤ n ∧ i = .int .i64 k ∧ Kp w wr) (fun i _ => n - (intOf i).toNat)
  case atStart => exact ⟨0, by omega, rfl, Kp.refl _⟩
  case round =>
    obtain ⟨k, hk, rfl, kr⟩ := hrel
    by_cases hlt : k < n
    · obtain ⟨ga, oa, rfl, ca'⟩ := HA.out (by omega)
      obtain ⟨gb, ob, rfl, cb'⟩ := HB.out (by omega)
      obtain ⟨x, hx⟩ : ∃ x, l[k]? = some x := ⟨l[k]'(by have := HN.out; omega), List.getElem?_eq_getElem _⟩
      have a0 := kr.cell (ca' k x hx)
      have b0 := kr.cell (cb' k x hx)
      clear ca' cb' hx
      have hlt' : (k : Int) < n := by omega
      go_wp2_with fail
      go_quiet (fail)
      go_wp2_with fail
      go_roundw
      case rel => exact ⟨k + 1, by omega, by go_num, kr.drewN _⟩
      case measure => simp [intOf]; omega
    · obtain rfl : k = n := by omega
      go_wp2_with fail
      go_ret
      exact ⟨rfl, kr⟩

theorem markIntS_any (v : Value) (n base : Nat) (xs : List Value) (w : World) (hn : n ≤ 1048576) (hown : w.ownsRow base 3 1 v n xs) :
    Calls Tryd.prog 109 #[v, .int .i64 1] w fun e w' => e = .returned (.int .i64 (1 + n)) ∧ w.grownBy w' v.ownBlock := by
  rcases hown.2 with ⟨rfl, rfl⟩ | ⟨g, cap, cur, rfl, _⟩
  · go_enter Tryd.func109, Tryd.ntmps109
    go_wp2_with fail
    go_loop [1, 5] (fun k i => k = .int .i64 1 ∧ i = .int .i64 0) (fun _ _ => 0)
    case atStart => exact ⟨rfl, rfl⟩
    case round =>
      obtain ⟨rfl, rfl⟩ := hrel
      go_wp2_with fail
      go_ret
      exact ⟨rfl, World.grownBy.refl w _⟩
  · go_enter Tryd.func109, Tryd.ntmps109
    go_wp2_with fail
    go_loopw [1, 5] (fun kk i wr => ∃ t : Nat, t ≤ n ∧ i = .int .i64 t ∧ kk = .int .i64 (1 + t) ∧ (∃ ys, wr.ownsRow base 3 1 (.slice (some ⟨g, 0, none⟩) n cap) n ys) ∧ w.grownBy wr (some g)) (fun _ i _ => n - (intOf i).toNat)
    case atStart => exact ⟨0, by omega, rfl, by simp, ⟨_, hown⟩, World.grownBy.refl w _⟩
    case round =>
      obtain ⟨t, ht, rfl, rfl, ⟨ys, ho⟩, hg⟩ := hrel
      by_cases hlt : t < n
      · have hlt' : (t : Int) < n := by omega
        have hlen : ys.length = n * 1 := ho.1
        obtain ⟨u0, hu0⟩ : ∃ u, wr.cell? ⟨g, t, none⟩ = some u := ⟨_, (ho.cellAt t (by omega)).trans (List.getElem?_eq_getElem (by omega))⟩
        have f0 := ho.frozenAt t
        clear hlen
        go_wp2_with fail
        go_roundw
        case rel =>
          obtain ⟨o1, g1⟩ := ho.stored t (.int .i64 (1 + t))
          exact ⟨t + 1, by omega, by go_num, by go_num, ⟨_, o1⟩, hg.trans g1⟩
        case measure => simp [intOf]; omega
      · obtain rfl : t = n := by omega
        go_wp2_with fail
        go_ret
        exact ⟨rfl, hg⟩

def isI64 (x : Int) : Prop := -9223372036854775808 ≤ x ∧ x ≤ 9223372036854775807

theorem OwnI.far {w : World} {base : Nat} {v : Value} {l : List Int} (h : OwnI w base v l) {g j : Nat} (hne : v.ownBlock ≠ some g) (u : Value) : OwnI (w.setCell ⟨g, j, none⟩ u) base v l :=
  World.ownsRow.kept h (grown_set w g j u) (.inr hne)
theorem OwnI.base {w : World} {base b : Nat} {v : Value} {l : List Int} (h : OwnI w base v l) (hb : b ≤ base) : OwnI w b v l := by
  refine ⟨h.1, ?_⟩
  rcases h.2 with h | ⟨g, cap, cur, h1, h2, h3⟩
  · exact .inl h
  · exact .inr ⟨g, cap, cur, h1, by omega, h3⟩
theorem OwnI.not {w : World} {base : Nat} {v : Value} {l : List Int} (h : OwnI w base v l) {g : Nat} (hg : g < base) : v.ownBlock ≠ some g := fun e => by
  have := (World.ownsRow.lt h g e).1
  omega
theorem OwnI.slice {w : World} {base : Nat} {v : Value} {l : List Int} (h : OwnI w base v l) : ∃ A c, v = .slice A l.length c := by
  obtain ⟨A, c, rfl, _⟩ := h.rd
  exact ⟨A, c, rfl⟩

theorem szIntS_yes (A : Option Addr) (n c : Nat) (left : Int) (w : World) (h : (n : Int) ≤ left) (h0 : 0 ≤ left) (h1 : left ≤ 1048576) :
    Calls Tryd.prog 46 #[.slice A n c, .int .i64 left] w fun e w' => e = .returned (.int .i64 (left - n)) ∧ w = w' := by
  go_enter Tryd.func46, Tryd.ntmps46
  go_wp2
  go_ret
  exact ⟨rfl, rfl⟩
theorem szIntS_no (A : Option Addr) (n c : Nat) (left : Int) (w : World) (h : left < n) (h0 : 0 ≤ left) (h1 : left ≤ 1048576) (hn : n ≤ 9223372036854775807) :
    Calls Tryd.prog 46 #[.slice A n c, .int .i64 left] w fun e w' => e = .returned (.int .i64 (-1)) ∧ w = w' := by
  go_enter Tryd.func46, Tryd.ntmps46
  go_wp2
  go_ret
  exact ⟨rfl, rfl⟩

end Go.Proofs.YtpdcmpojjchobaaDoor

/-
  An argument that is a slice of integers reads as a list.
-/
namespace Go.Proofs.YtpdcmpojjchobaaDoor
open Go.ChangeShapes Go.WideShapes Go.ChangeAt Go.RowKit Go.Joins

theorem cellsInt1 : Tryd.prog.cellsOf 3 = 1 := by kernel_rfl
set_option maxRecDepth 100000 in
theorem rdI_of_trod {H : Type} {enc : TypeId × Value → H} {W : World} {base : Nat} {v : Value} {d : DataW H} {p : List MemPlace}
    (hv : Value.okWide Tryd.prog W .any base 38 v) (h : DataW.Trod enc Tryd.prog W 0 (fun _ => true) true 38 v d p) : ∃ l, RdI W v l := by
  obtain ⟨a0, len, cap, rfl⟩ := okWide_slice Tryd.underlying38 hv
  obtain ⟨fuel, hf⟩ := h
  rcases open_ints Tryd.underlying38 Tryd.underlying3 cellsInt1 hf with ⟨hcs, hx⟩ | ⟨a, len', cap', zs, hcs, _, hl, hm, hz, hx, hcell, hwz⟩
  · simp only [Value.cells, List.cons.injEq, Value.slice.injEq, and_true] at hcs
    obtain ⟨rfl, rfl, rfl⟩ := hcs
    exact ⟨[], none, 0, rfl, fun h0 => by simp at h0⟩
  · simp only [Value.cells, List.cons.injEq, Value.slice.injEq, and_true] at hcs
    obtain ⟨rfl, rfl, rfl⟩ := hcs
    have hzl : len ≤ zs.length := by rw [hz]; simpa using hl
    have hlen : (zs.take len).length = len := by rw [List.length_take]; omega
    refine ⟨zs.take len, some a, cap, by rw [hlen], fun h0 => ?_⟩
    obtain ⟨b, off, rfl, hc⟩ := ints_at hcell (by omega)
    refine ⟨b, off, rfl, fun i x hi => ?_⟩
    rw [List.getElem?_take] at hi
    split at hi
    · have hil : i < zs.length := (List.getElem?_eq_some_iff.1 hi).1
      rw [hc i hil]
      simp [List.getD, hi]
    · cases hi

set_option maxRecDepth 100000 in
/-- An argument that is a slice of integers: the list, its length and its numbers within Go's own bounds. -/
theorem rdB_of_trod {H : Type} {enc : TypeId × Value → H} {W : World} {v : Value} {n : Nat} {y : DataW H × List MemPlace}
    (hf : DataW.trod enc Tryd.prog W 0 (fun _ => true) true n 38 [v] = some y) : ∃ l, RdI W v l ∧ l.length ≤ 9223372036854775807 ∧ ∀ x ∈ l, -9223372036854775808 ≤ x ∧ x ≤ 9223372036854775807 := by
  rcases open_ints Tryd.underlying38 Tryd.underlying3 cellsInt1 hf with ⟨hcs, hx⟩ | ⟨a, len, cap, zs, hcs, _, hl, hm, hz, hx, hcell, hwz⟩
  · simp only [List.cons.injEq, and_true] at hcs
    obtain rfl := hcs
    exact ⟨[], ⟨none, 0, rfl, fun h0 => by simp at h0⟩, by simp, fun x hx => by cases hx⟩
  · simp only [List.cons.injEq, and_true] at hcs
    obtain rfl := hcs
    have hzl : len ≤ zs.length := by rw [hz]; simpa using hl
    have hlen : (zs.take len).length = len := by rw [List.length_take]; omega
    refine ⟨zs.take len, ⟨some a, cap, by rw [hlen], fun h0 => ?_⟩, by rw [hlen]; unfold maxLen at hm; omega, fun x hx => bounds_i64 (hwz x (List.mem_of_mem_take hx))⟩
    obtain ⟨b, off, rfl, hc⟩ := ints_at hcell (by omega)
    refine ⟨b, off, rfl, fun i x hi => ?_⟩
    rw [List.getElem?_take] at hi
    split at hi
    · have hil : i < zs.length := (List.getElem?_eq_some_iff.1 hi).1
      rw [hc i hil]
      simp [List.getD, hi]
    · cases hi
end Go.Proofs.YtpdcmpojjchobaaDoor

/-
  Arguments that are structs, and slices of structs: their cells, read one by one.
-/
namespace Go.Proofs.YtpdcmpojjchobaaDoor
open Go.ChangeShapes Go.WideShapes Go.ChangeAt Go.RowKit Go.Joins Go.Deep

/-- The cells of a struct whose fields take one cell each, read one by one. -/
theorem fields_of_trod {H : Type} {enc : TypeId × Value → H} {P : Program} {w : World} {base n0 fuel : Nat} {spare : Nat → Bool} {held : Bool} {t : TypeId} {fs : Array Field} {cs : List Value} {x : DataW H × List MemPlace}
    (hs : P.underlying t = some (.struct fs)) (hone : Go.Deep.oneCellFields P fs = true) (hn : fs.size = n0) (hl : cs.length = n0) (hf : DataW.trod enc P w base spare held fuel t cs = some x) :
    ∃ n : Nat, ∀ (j : Nat) (f : Field), fs[j]? = some f → ∃ c y, cs[j]? = some c ∧ DataW.trod enc P w base spare held n f.type [c] = some y := by
  obtain ⟨xs, n, _, _, _, hlen, hg⟩ := DataW.trod_struct hs hf
  refine ⟨n, fun j f hj => ?_⟩
  have hjl : j < fs.size := (Array.getElem?_eq_some_iff.1 hj).1
  obtain ⟨o, k⟩ := Go.Deep.hone_of hone j f hj
  have h1 := hg j f hj
  rw [o, k] at h1
  have e : (cs.drop j).take 1 = [cs[j]'(by omega)] := by
    rw [List.drop_eq_getElem_cons (by omega)]
    rfl
  rw [e] at h1
  exact ⟨_, _, List.getElem?_eq_getElem (by omega), h1.trans (List.getElem?_eq_getElem (by omega))⟩

theorem add_none' (b off k : Nat) : (⟨b, off, none⟩ : Addr).add k = ⟨b, off + k, none⟩ := by
  unfold Addr.add
  split
  · rename_i h
    simp_all
  · rfl
theorem RdI.shape {w : World} {v : Value} {l : List Int} (h : RdI w v l) : ∃ A c, v = .slice A l.length c := by
  obtain ⟨A, c, e, _⟩ := h
  exact ⟨A, c, e⟩

/-- A slice of structs of sz cells each reads as a list, where each element's cells do. -/
theorem rd_structs {α : Type} {H : Type} {enc : TypeId × Value → H} {W : World} {t e : TypeId} {sz fuel : Nat} {v : Value} {y : DataW H × List MemPlace} (At : Nat → Nat → α → Prop) (hsz : Tryd.prog.cellsOf e = sz)
    (ht : Tryd.prog.underlying t = some (.slice e)) (hf : DataW.trod enc Tryd.prog W 0 (fun _ => true) true fuel t [v] = some y)
    (one : ∀ (a : Addr) (fu : Nat) (cs : List Value) (x : DataW H × List MemPlace), cs.length = sz → (∀ j, j < sz → W.cell? (a.add j) = cs[j]?) → DataW.trod enc Tryd.prog W 0 (fun _ => true) true fu e cs = some x → a.spot = none ∧ ∃ z : α, At a.block a.off z) :
    ∃ (A : Option Addr) (n c : Nat) (l : List α), v = .slice A n c ∧ l.length = n ∧ n ≤ maxLen ∧ (0 < n → ∃ g off, A = some ⟨g, off, none⟩ ∧ ∀ i x, l[i]? = some x → At g (off + i * sz) x) := by
  rcases open_slice ht hf with ⟨hcs, _⟩ | ⟨a, len, cap, m, n, D, Pl, hcs, _, hl, hm, hmm, _, hi⟩
  · simp only [List.cons.injEq, and_true] at hcs
    exact ⟨none, 0, 0, [], hcs, rfl, by decide, fun h => absurd h (by omega)⟩
  · simp only [List.cons.injEq, and_true] at hcs
    have hmc : m = cap := by simpa using hmm
    have each : ∀ i, i < len → (a.add (i * sz)).spot = none ∧ ∃ z : α, At (a.add (i * sz)).block (a.add (i * sz)).off z := by
      intro i hil
      obtain ⟨cs', hc, ht'⟩ := hi i (by omega)
      rw [hsz] at hc
      obtain ⟨_, hcl, hat⟩ := World.cells?_some hc
      exact one _ _ cs' _ hcl (fun j hj => hat j hj) ht'
    rcases Nat.eq_zero_or_pos len with rfl | hpos
    · exact ⟨some a, 0, cap, [], hcs, rfl, by omega, fun h => absurd h (by omega)⟩
    · obtain ⟨b, off, spot⟩ := a
      have hspot : spot = none := by
        have := (each 0 hpos).1
        simpa [Addr.add] using this
      subst hspot
      let l : List α := (List.range len).attach.map fun i => (each i.1 (List.mem_range.1 i.2)).2.choose
      have hll : l.length = len := by simp [l]
      refine ⟨_, len, cap, l, hcs, hll, by omega, fun _ => ⟨b, off, rfl, fun i x hx => ?_⟩⟩
      have hil : i < len := by have := (List.getElem?_eq_some_iff.1 hx).1; omega
      have hs := (each i hil).2.choose_spec
      have key : ∀ (A : Addr) (z : α), A = ⟨b, off + i * sz, none⟩ → At A.block A.off z → At b (off + i * sz) z := by
        rintro _ _ rfl h
        exact h
      have hx' : x = (each i hil).2.choose := by
        obtain ⟨hi2, rfl⟩ := List.getElem?_eq_some_iff.1 hx
        simp [l]
      rw [hx']
      exact key _ _ (add_none' b off (i * sz)) hs

/-- An argument that is a struct whose fields take one cell each: the cell of each field reads as the field's type says. -/
theorem open_fields {H : Type} {enc : TypeId × Value → H} {P : Program} {w : World} {base b0 n0 : Nat} {spare : Nat → Bool} {held : Bool} {rc : Reach} {t : TypeId} {fs : Array Field} {v : Value} {d : DataW H} {p : List MemPlace}
    (hs : P.underlying t = some (.struct fs)) (hone : Go.Deep.oneCellFields P fs = true) (hC : P.cellsOf t = n0) (hn : fs.size = n0) (hv : Value.okWide P w rc b0 t v) (h : DataW.Trod enc P w base spare held t v d p) :
    ∃ (cs : List Value) (n : Nat), v = .agg cs.toArray ∧ cs.length = n0 ∧ ∀ (j : Nat) (f : Field), fs[j]? = some f → ∃ c y, cs[j]? = some c ∧ DataW.trod enc P w base spare held n f.type [c] = some y := by
  obtain ⟨⟨cs⟩, rfl, hsz⟩ := okWide_struct hs hv
  obtain ⟨fuel, hf⟩ := h
  obtain ⟨xs, n, _, _, _, hlen, hg⟩ := DataW.trod_struct hs hf
  have hcl : cs.length = n0 := hsz.trans hC
  refine ⟨cs, n, rfl, hcl, fun j f hj => ?_⟩
  have hjl : j < fs.size := (Array.getElem?_eq_some_iff.1 hj).1
  obtain ⟨o, k⟩ := Go.Deep.hone_of hone j f hj
  have h1 := hg j f hj
  rw [o, k] at h1
  have e : ((Value.agg cs.toArray).cells.toList.drop j).take 1 = [cs[j]'(by omega)] := by
    simp only [Value.cells, List.toList_toArray]
    rw [List.drop_eq_getElem_cons (by omega)]
    rfl
  rw [e] at h1
  exact ⟨_, _, List.getElem?_eq_getElem (by omega), h1.trans (List.getElem?_eq_getElem (by omega))⟩
end Go.Proofs.YtpdcmpojjchobaaDoor

/-
  A number as text, in the reference: 'l1Num' turns a number of 0 or more into its decimal digits, and only new blocks are written.
-/
namespace Go.Proofs.YtpdcmpojjchobaaDoor
open Go.RowKit

/-- A number's text. -/
def decT (n : Nat) : ByteArray := ⟨(Lib.decDigits n).toArray⟩

theorem strOf_one (n : Nat) : strOfNums [48 + (n : Int)] = ⟨[UInt8.ofNat (48 + n)].toArray⟩ := by
  have e : (48 + (n : Int)).toNat = 48 + n := by omega
  unfold strOfNums
  simp [e]

theorem decT_lt {n : Nat} (h : n < 10) : decT n = strOfNums [48 + (n : Int)] := by
  rw [strOf_one]
  unfold decT
  rw [Lib.decDigits, dif_pos h]

theorem decT_ge {n : Nat} (h : ¬ n < 10) : decT n = decT (n / 10) ++ strOfNums [48 + ((n % 10 : Nat) : Int)] := by
  rw [strOf_one]
  unfold decT
  rw [Lib.decDigits, dif_neg h]
  apply ByteArray.ext
  simp [ByteArray.data_append]

theorem decT_size (n : Nat) : (decT n).size = Lib.nDigits n := by
  unfold decT ByteArray.size
  simp [Lib.decDigits_eq]

theorem nDigits_le (n : Nat) : Lib.nDigits n ≤ n + 1 := by
  induction n using Nat.strongRecOn with
  | _ n ih =>
    by_cases h : n < 10
    · rw [Lib.nDigits_small h]; omega
    · rw [Lib.nDigits_big h]
      have := ih (n / 10) (by omega)
      omega

theorem decT_len (n : Nat) : (decT n).size ≤ n + 1 := by rw [decT_size]; exact nDigits_le n

/-- One byte, as a list in memory, turned into a text. -/
theorem conv_one (r : Nat) (W : World) (b : Nat) (h : W.cell? ⟨b, 0, none⟩ = some (.int .u8 (48 + (r : Int)))) :
    (convert 73 9 (.slice (some ⟨b, 0, none⟩) 1 1)).run Tryd.prog W = .ok (.string (strOfNums [48 + (r : Int)])) W :=
  run_convert_bytes_arg (P := Tryd.prog) W 73 5 Tryd.underlying73 Tryd.underlying5 b 0 1 1 [48 + (r : Int)] rfl (fun i hi => by
    obtain rfl : i = 0 := by omega
    simpa using h) 9 Tryd.underlying9

set_option maxRecDepth 100000 in
set_option maxHeartbeats 1000000 in
theorem l1Num_any : ∀ (n : Nat) (w : World), n ≤ 1000000000000000 →
    Calls Tryd.prog 70 #[.int .i64 (n : Int)] w fun e w' => e = .returned (.string (decT n)) ∧ Kp w w' := by
  intro n
  induction n using Nat.strongRecOn with
  | _ n ih =>
    intro w hn
    by_cases h0 : n < 10
    · have h1 : (n : Int) < 10 := by omega
      have hconv := conv_one n (w.alloc (.cells #[.int .u8 (48 + (n : Int))] 5)) w.heap.size (by simp [go_sem])
      rw [← decT_lt h0] at hconv
      go_enter Tryd.func70, Tryd.ntmps70
      go_wp2_with fail
      go_ret
      exact ⟨rfl, (Kp.refl _).alloc _⟩
    · have h1 : ¬ (n : Int) < 10 := by omega
      have h2 : (n : Int) / 10 = ((n / 10 : Nat) : Int) := by omega
      have h3 : (n : Int) % 10 = ((n % 10 : Nat) : Int) := by omega
      obtain ⟨q, hq⟩ : ∃ q, q = n / 10 := ⟨_, rfl⟩
      obtain ⟨r, hr⟩ : ∃ r, r = n % 10 := ⟨_, rfl⟩
      have HT := Lib.hid (decT_ge h0)
      have IH := Lib.hid (fun w => ih q (by omega) w (by omega))
      have HC := Lib.hid (conv_one r)
      have hr9 : (r : Int) ≤ 9 := by omega
      have t1 : (n : Int).tdiv 10 = (q : Int) := by rw [Int.tdiv_eq_ediv_of_nonneg (by omega)]; omega
      have t2 : (n : Int).tmod 10 = (r : Int) := by rw [Int.tmod_eq_emod_of_nonneg (by omega)]; omega
      have t3 : IntKind.i64.wrap (q : Int) = q := IntWalk.i64_in _ (by omega)
      have t4 : IntKind.i64.wrap (48 + (r : Int)) = 48 + (r : Int) := IntWalk.i64_in _ (by omega)
      have t5 : IntKind.u8.wrap (48 + (r : Int)) = 48 + (r : Int) := by simp [IntKind.wrap, IntKind.bits, IntKind.signed]; omega
      have hz1 := decT_len q
      have hz2 := strOfNums_size [48 + (r : Int)]
      have hz3 : (decT q).size + (strOfNums [48 + (r : Int)]).size ≤ 9223372036854775807 := by simp at hz2; omega
      have hz4 : ¬ 9223372036854775807 < (decT q).size + (strOfNums [48 + (r : Int)]).size := by omega
      clear hz1 hz2
      have t6 : IntKind.i64.wrap (r : Int) = r := IntWalk.i64_in _ (by omega)
      rw [← hr] at HT h3
      rw [← hq] at HT h2
      clear ih hq hr
      have s1 : True := trivial
      go_enter Tryd.func70, Tryd.ntmps70
      go_wp2_with fail
      refine wp_region_held_drew (S := fun _ => True) (by kernel_rfl) ?_ (fun hHeld => ?_)
      · exact s1
      refine wpAnyH_take (i := 0) (oi := ⟨some 10, _, _, _, _, _⟩) (v := ?_) rfl (by kernel_rfl) (by kernel_rfl) (by kernel_rfl) (fun _ _ _ h => h) (Or.inl ⟨by rfl, ?_⟩) (by assumption) ?_
      rotate_left
      · intro w hSw; (try dsimp only at hSw); go_simp; (all_goals with_reducible rfl)
      simp only [Act.put, List.setIfInBounds_toArray, List.set_cons_zero, List.set_cons_succ]
      refine wpAnyH_take (i := 1) (oi := ⟨some 11, _, _, _, _, _⟩) (v := ?_) rfl (by kernel_rfl) (by kernel_rfl) (by kernel_rfl) (fun _ _ _ h => h) (Or.inl ⟨by rfl, ?_⟩) (by assumption) ?_
      rotate_left
      · intro w hSw; (try dsimp only at hSw); go_simp; (all_goals with_reducible rfl)
      simp only [Act.put, List.setIfInBounds_toArray, List.set_cons_zero, List.set_cons_succ]
      refine wpAnyH_take (i := 3) (oi := ⟨some 13, _, _, _, _, _⟩) (v := ?_) rfl (by kernel_rfl) (by kernel_rfl) (by kernel_rfl) (fun _ _ _ h => h) (Or.inl ⟨by rfl, ?_⟩) (by assumption) ?_
      rotate_left
      · intro w hSw; (try dsimp only at hSw); go_simp; (all_goals with_reducible rfl)
      simp only [Act.put, List.setIfInBounds_toArray, List.set_cons_zero, List.set_cons_succ]
      refine wpAnyH_take (i := 4) (oi := ⟨some 14, _, _, _, _, _⟩) (v := ?_) rfl (by kernel_rfl) (by kernel_rfl) (by kernel_rfl) (fun _ _ _ h => h) (Or.inl ⟨by rfl, ?_⟩) (by assumption) ?_
      rotate_left
      · intro w hSw; (try dsimp only at hSw); go_simp; (all_goals with_reducible rfl)
      simp only [Act.put, List.setIfInBounds_toArray, List.set_cons_zero, List.set_cons_succ]
      refine wpAnyH_take (i := 5) (oi := ⟨some 15, _, _, _, _, _⟩) (v := ?_) rfl (by kernel_rfl) (by kernel_rfl) (by kernel_rfl) (fun _ _ _ h => h) (Or.inl ⟨by rfl, ?_⟩) (by assumption) ?_
      rotate_left
      · intro w hSw; (try dsimp only at hSw); go_simp; (all_goals with_reducible rfl)
      simp only [Act.put, List.setIfInBounds_toArray, List.set_cons_zero, List.set_cons_succ]
      refine wpAnyH_take (i := 6) (oi := ⟨some 16, _, _, _, _, _⟩) (v := ?_) rfl (by kernel_rfl) (by kernel_rfl) (by kernel_rfl) (fun _ _ _ h => h) (Or.inl ⟨by rfl, ?_⟩) (by assumption) ?_
      rotate_left
      · intro w hSw; (try dsimp only at hSw); go_simp; (all_goals with_reducible rfl)
      simp only [Act.put, List.setIfInBounds_toArray, List.set_cons_zero, List.set_cons_succ]
      refine wpAnyH_ready (rs := [2, 7]) (by kernel_rfl) (by simp) ?_
      refine (AllReadyH.cons (o := ⟨some 12, _, _, _, _, _⟩) rfl (fun K hK => ?_) (AllReadyH.cons (o := ⟨some 17, _, _, _, _, _⟩) rfl (fun K hK => ?_) AllReadyH.nil))
      · go_simp
        refine (IH.out _).mono ?_
        rintro e1 w1 ⟨rfl, k1⟩
        go_wp2_with fail
        refine hK.out _ _ trivial (fun hHeld => ?_)
        clear hK K
        try simp only [Act.put, List.setIfInBounds_toArray, List.set_cons_zero, List.set_cons_succ]
        refine wpAnyH_ready (rs := [7]) (by kernel_rfl) (by simp) ?_
        refine (AllReadyH.cons (o := ⟨some 17, _, _, _, _, _⟩) rfl (fun K hK => ?_) AllReadyH.nil)
        · go_simp
          go_wp2_with fail
          refine hK.out _ _ trivial (fun hHeld => ?_)
          clear hK K
          try simp only [Act.put, List.setIfInBounds_toArray, List.set_cons_zero, List.set_cons_succ]
          refine wpAnyH_ready (rs := [8]) (by kernel_rfl) (by simp) ?_
          refine (AllReadyH.cons (o := ⟨some 18, _, _, _, _, _⟩) rfl (fun K hK => ?_) AllReadyH.nil)
          · go_simp
            rw [HC.out]
            rotate_left
            · simp [go_sem]
            go_wp2_with fail
            refine hK.out _ _ trivial (fun hHeld => ?_)
            clear hK K
            try simp only [Act.put, List.setIfInBounds_toArray, List.set_cons_zero, List.set_cons_succ]
            refine wpAnyH_take (i := 9) (oi := ⟨some 19, _, _, _, _, _⟩) (v := ?_) rfl (by kernel_rfl) (by kernel_rfl) (by kernel_rfl) (fun _ _ _ h => h) (Or.inl ⟨by rfl, ?_⟩) (by assumption) ?_
            rotate_left
            · intro w hSw; (try dsimp only at hSw); go_simp; (all_goals with_reducible rfl)
            simp only [Act.put, List.setIfInBounds_toArray, List.set_cons_zero, List.set_cons_succ]
            refine wpAnyH_take (i := 10) (oi := ⟨some 2, _, _, _, _, _⟩) (v := ?_) rfl (by kernel_rfl) (by kernel_rfl) (by kernel_rfl) (fun _ _ _ h => h) (Or.inl ⟨by rfl, ?_⟩) (by assumption) ?_
            rotate_left
            · intro w hSw; (try dsimp only at hSw); go_simp; (all_goals with_reducible rfl)
            simp only [Act.put, List.setIfInBounds_toArray, List.set_cons_zero, List.set_cons_succ]
            refine wpAnyH_done (by kernel_rfl) ?_ _
            go_wp2_with fail
            go_ret
            exact ⟨by rw [HT.out]; rfl, ((Kp.refl w).drew.trans k1).alloc _⟩
      · go_simp
        go_wp2_with fail
        refine hK.out _ _ trivial (fun hHeld => ?_)
        clear hK K
        try simp only [Act.put, List.setIfInBounds_toArray, List.set_cons_zero, List.set_cons_succ]
        refine wpAnyH_ready (rs := [2, 8]) (by kernel_rfl) (by simp) ?_
        refine (AllReadyH.cons (o := ⟨some 12, _, _, _, _, _⟩) rfl (fun K hK => ?_) (AllReadyH.cons (o := ⟨some 18, _, _, _, _, _⟩) rfl (fun K hK => ?_) AllReadyH.nil))
        · go_simp
          refine (IH.out _).mono ?_
          rintro e1 w1 ⟨rfl, k1⟩
          have hc8 := HC.out w1 w.heap.size (k1.cell (by simp [go_sem]))
          go_wp2_with fail
          refine hK.out _ _ trivial (fun hHeld => ?_)
          clear hK K
          try simp only [Act.put, List.setIfInBounds_toArray, List.set_cons_zero, List.set_cons_succ]
          refine wpAnyH_ready (rs := [8]) (by kernel_rfl) (by simp) ?_
          refine (AllReadyH.cons (o := ⟨some 18, _, _, _, _, _⟩) rfl (fun K hK => ?_) AllReadyH.nil)
          · go_simp
            go_wp2_with fail
            refine hK.out _ _ trivial (fun hHeld => ?_)
            clear hK K
            try simp only [Act.put, List.setIfInBounds_toArray, List.set_cons_zero, List.set_cons_succ]
            refine wpAnyH_take (i := 9) (oi := ⟨some 19, _, _, _, _, _⟩) (v := ?_) rfl (by kernel_rfl) (by kernel_rfl) (by kernel_rfl) (fun _ _ _ h => h) (Or.inl ⟨by rfl, ?_⟩) (by assumption) ?_
            rotate_left
            · intro w hSw; (try dsimp only at hSw); go_simp; (all_goals with_reducible rfl)
            simp only [Act.put, List.setIfInBounds_toArray, List.set_cons_zero, List.set_cons_succ]
            refine wpAnyH_take (i := 10) (oi := ⟨some 2, _, _, _, _, _⟩) (v := ?_) rfl (by kernel_rfl) (by kernel_rfl) (by kernel_rfl) (fun _ _ _ h => h) (Or.inl ⟨by rfl, ?_⟩) (by assumption) ?_
            rotate_left
            · intro w hSw; (try dsimp only at hSw); go_simp; (all_goals with_reducible rfl)
            simp only [Act.put, List.setIfInBounds_toArray, List.set_cons_zero, List.set_cons_succ]
            refine wpAnyH_done (by kernel_rfl) ?_ _
            go_wp2_with fail
            go_ret
            exact ⟨by rw [HT.out]; rfl, ((Kp.refl w).drew.alloc _).trans k1⟩
        · go_simp
          rw [HC.out]
          rotate_left
          · simp [go_sem]
          go_wp2_with fail
          refine hK.out _ _ trivial (fun hHeld => ?_)
          clear hK K
          try simp only [Act.put, List.setIfInBounds_toArray, List.set_cons_zero, List.set_cons_succ]
          refine wpAnyH_ready (rs := [2]) (by kernel_rfl) (by simp) ?_
          refine (AllReadyH.cons (o := ⟨some 12, _, _, _, _, _⟩) rfl (fun K hK => ?_) AllReadyH.nil)
          · go_simp
            refine (IH.out _).mono ?_
            rintro e1 w1 ⟨rfl, k1⟩
            go_wp2_with fail
            refine hK.out _ _ trivial (fun hHeld => ?_)
            clear hK K
            try simp only [Act.put, List.setIfInBounds_toArray, List.set_cons_zero, List.set_cons_succ]
            refine wpAnyH_take (i := 9) (oi := ⟨some 19, _, _, _, _, _⟩) (v := ?_) rfl (by kernel_rfl) (by kernel_rfl) (by kernel_rfl) (fun _ _ _ h => h) (Or.inl ⟨by rfl, ?_⟩) (by assumption) ?_
            rotate_left
            · intro w hSw; (try dsimp only at hSw); go_simp; (all_goals with_reducible rfl)
            simp only [Act.put, List.setIfInBounds_toArray, List.set_cons_zero, List.set_cons_succ]
            refine wpAnyH_take (i := 10) (oi := ⟨some 2, _, _, _, _, _⟩) (v := ?_) rfl (by kernel_rfl) (by kernel_rfl) (by kernel_rfl) (fun _ _ _ h => h) (Or.inl ⟨by rfl, ?_⟩) (by assumption) ?_
            rotate_left
            · intro w hSw; (try dsimp only at hSw); go_simp; (all_goals with_reducible rfl)
            simp only [Act.put, List.setIfInBounds_toArray, List.set_cons_zero, List.set_cons_succ]
            refine wpAnyH_done (by kernel_rfl) ?_ _
            go_wp2_with fail
            go_ret
            exact ⟨by rw [HT.out]; rfl, ((Kp.refl w).drew.alloc _).trans k1⟩

end Go.Proofs.YtpdcmpojjchobaaDoor

/-
  Texts as lists of bytes; a line of digits as the program writes it.
-/
namespace Go.Proofs.YtpdcmpojjchobaaDoor
open Go.RowKit

/-- A list of bytes as a text. -/
def txt (l : List UInt8) : ByteArray := ⟨l.toArray⟩
theorem txt_app (a b : List UInt8) : txt a ++ txt b = txt (a ++ b) := by
  apply ByteArray.ext
  simp [txt, ByteArray.data_append]
theorem txt_size (l : List UInt8) : (txt l).size = l.length := by simp [txt, ByteArray.size]
theorem decT_txt (n : Nat) : decT n = txt (Lib.decDigits n) := rfl

/-- The digits of numbers, one number behind the other. -/
def digs (l : List Int) : List UInt8 := l.flatMap fun n => Lib.decDigits n.toNat
theorem digs_nil : digs [] = [] := rfl
theorem digs_more {l : List Int} {q : Nat} {x : Int} (h : l[q]? = some x) : digs (l.take (q + 1)) = digs (l.take q) ++ Lib.decDigits x.toNat := by
  rw [List.take_add_one, h]
  simp [digs]
theorem dec_len {n : Nat} (h : n < 100) : (Lib.decDigits n).length ≤ 2 := by
  have e : (Lib.decDigits n).length = Lib.nDigits n := by simp [Lib.decDigits_eq]
  rw [e]
  by_cases h0 : n < 10
  · rw [Lib.nDigits_small h0]; omega
  · rw [Lib.nDigits_big h0, Lib.nDigits_small (by omega)]; omega
theorem digs_len : ∀ (l : List Int), (∀ x ∈ l, 0 ≤ x ∧ x < 100) → (digs l).length ≤ 2 * l.length
  | [], _ => by simp [digs]
  | x :: l, h => by
    have h1 := digs_len l (fun y hy => h y (List.mem_cons_of_mem _ hy))
    have h2 := h x (List.mem_cons_self ..)
    have h3 := dec_len (n := x.toNat) (by omega)
    have e : digs (x :: l) = Lib.decDigits x.toNat ++ digs l := by simp [digs]
    rw [e, List.length_append, List.length_cons]
    omega

set_option maxRecDepth 100000 in
set_option maxHeartbeats 2000000 in
theorem digitsLine_any (v : Value) (l : List Int) (w : World) (h : RdI w v l) (hl : l.length ≤ 1048576) (hb : ∀ x ∈ l, 0 ≤ x ∧ x < 100) :
    Calls Tryd.prog 51 #[v] w fun e w' => e = .returned (.string (txt (digs l ++ [10]))) ∧ Kp w w' := by
  obtain ⟨A, c, rfl, hA⟩ := h
  have HA := Lib.hid hA
  have HB := Lib.hid hb
  have HLD := Lib.hid (digs_len l hb)
  obtain ⟨n, hn⟩ : ∃ n, l.length = n := ⟨_, rfl⟩
  rw [hn] at hl hA HLD ⊢
  have HN := Lib.hid hn
  clear hn hA hb
  have F0 := Lib.hid (Lib.fresh_isBuilder 75 5 w)
  go_enter Tryd.func51, Tryd.ntmps51
  go_wp2_with fail
  go_loopw [5, 8] (fun _ i wr => ∃ q : Nat, q ≤ n ∧ i = .int .i64 q ∧ Hid (Lib.IsBuilder 75 5 w.heap.size w.heap.size (Lib.byteCells (digs (l.take q))) wr) ∧ Kp w wr) (fun _ i _ => n - (intOf i).toNat)
  case atStart => exact ⟨0, by omega, rfl, F0, (Kp.refl _).alloc _⟩
  case round =>
    clear F0
    obtain ⟨q, hq, rfl, hB, kr⟩ := hrel
    have hw := kr.size
    by_cases hlt : q < n
    · have hlt' : (q : Int) < n := by omega
      obtain ⟨x, hx⟩ : ∃ x, l[q]? = some x := ⟨l[q]'(by have := HN.out; omega), List.getElem?_eq_getElem _⟩
      obtain ⟨g, off, rfl, hc⟩ := HA.out (by have := HN.out; omega)
      have a0 := kr.cell (hc q x hx)
      have hx1 := HB.out x (List.mem_of_getElem? hx)
      have HM := Lib.hid (digs_more hx)
      have HLQ := Lib.hid (digs_len (l.take q) (fun y hy => HB.out y (List.mem_of_mem_take hy)))
      obtain ⟨m, rfl⟩ : ∃ m : Nat, x = m := ⟨x.toNat, by omega⟩
      have hm : m < 100 := by omega
      clear hx hc hx1
      go_wp2_with fail
      refine (Tryd.strconv_Itoa_small m hm _).mono ?_
      rintro e1 w1 ⟨rfl, rfl⟩
      go_wp2_with fail
      refine (writeString_any w.heap.size w.heap.size _ _ _ hB.out (by
        have h1 := HLQ.out
        have h2 := dec_len hm
        rw [Lib.byteCells_length]
        rw [List.length_take] at h1
        simp only [ByteArray.size, List.size_toArray]
        omega) hw).mono ?_
      rintro e2 w2 ⟨⟨r, rfl⟩, hb2, kb2⟩
      have HB2 : Hid (Lib.IsBuilder 75 5 w.heap.size w.heap.size (Lib.byteCells (digs (l.take (q + 1)))) w2) := Lib.hid (by
        rw [HM.out, Lib.byteCells_append]
        exact .inr hb2)
      have KB2 : Kp w w2 := Below.trans kr kb2
      go_wp2_with fail
      go_roundw
      case rel => exact ⟨q + 1, by omega, by go_num, HB2, KB2⟩
      case measure => simp [intOf]; omega
    · obtain rfl : q = n := by omega
      have HT := Lib.hid (show l.take q = l from List.take_of_length_le (by rw [HN.out]; omega))
      rw [HT.out] at hB
      go_wp2_with fail
      refine (Tryd.Builder_String_any w.heap.size w.heap.size _ _ hB.out hw).mono ?_
      rintro e1 w1 ⟨rfl, k1⟩
      have hz : ¬ 9223372036854775807 < (ByteArray.mk (digs l).toArray).size + (ByteArray.mk #[10]).size := by
        have := HLD.out
        simp [ByteArray.size]
        omega
      go_wp2_with fail
      go_ret
      exact ⟨by rw [← txt_app]; rfl, Below.trans kr k1⟩
end Go.Proofs.YtpdcmpojjchobaaDoor

/-
  Texts of words: words joined by a byte that is in none of them are split into the same words; a form filled with a name and numbers.
-/
namespace Go.Proofs.YtpdcmpojjchobaaDoor
open Go.RowKit

theorem index_pre (c : UInt8) : ∀ (x r : List UInt8), c ∉ x → Lib.index (x ++ c :: r) [c] = x.length
  | [], r, _ => by rw [List.nil_append, Lib.index]; simp [List.isPrefixOf]
  | b :: x, r, h => by
    have hb : b ≠ c := fun e => h (by simp [e])
    have ih := index_pre c x r (fun hc => h (List.mem_cons_of_mem _ hc))
    have hp : ([c] : List UInt8).isPrefixOf (b :: (x ++ c :: r)) = false := by simp [List.isPrefixOf, Ne.symm hb]
    have hm : ¬ ((x.length : Int) == -1) = true := fun e => by have := beq_iff_eq.1 e; omega
    rw [List.cons_append, Lib.index, hp, ih, if_neg (by decide), if_neg hm, List.length_cons]
    omega

theorem join_two (x y : List UInt8) (r : List (List UInt8)) (c : UInt8) : Lib.join (x :: y :: r) [c] = x ++ c :: Lib.join (y :: r) [c] := by
  rw [Lib.join_cons, Lib.join_cons]
  simp [Lib.joinTail]

theorem splitK_join (c : UInt8) : ∀ (r : List (List UInt8)) (x : List UInt8), (∀ y ∈ x :: r, c ∉ y) → Lib.splitK [c] 0 r.length (Lib.join (x :: r) [c]) = x :: r
  | [], x, _ => by rw [Lib.join_one]; rfl
  | y :: r, x, h => by
    have i := index_pre c x (Lib.join (y :: r) [c]) (h x (List.mem_cons_self ..))
    have ih := splitK_join c r y (fun z hz => h z (List.mem_cons_of_mem _ hz))
    have hm : ¬ ((x.length : Int) == -1) = true := fun e => by have := beq_iff_eq.1 e; omega
    rw [List.length_cons, Lib.splitK, join_two, i, if_neg hm]
    have e1 : (x ++ c :: Lib.join (y :: r) [c]).take (((x.length : Int).toNat) + 0) = x := by simp
    have e2 : (x ++ c :: Lib.join (y :: r) [c]).drop (((x.length : Int).toNat) + ([c] : List UInt8).length) = Lib.join (y :: r) [c] := by
      have e3 : x ++ c :: Lib.join (y :: r) [c] = (x ++ [c]) ++ Lib.join (y :: r) [c] := by simp
      rw [e3]
      exact List.drop_left' (by simp)
    rw [e1, e2, ih]

theorem count_join (c : UInt8) : ∀ (r : List (List UInt8)) (x : List UInt8), (∀ y ∈ x :: r, c ∉ y) → (Lib.join (x :: r) [c]).count c = r.length
  | [], x, h => by rw [Lib.join_one]; exact List.count_eq_zero.2 (h x (List.mem_cons_self ..))
  | y :: r, x, h => by
    have ih := count_join c r y (fun z hz => h z (List.mem_cons_of_mem _ hz))
    have h0 : x.count c = 0 := List.count_eq_zero.2 (h x (List.mem_cons_self ..))
    rw [join_two, List.count_append, h0, List.count_cons_self, ih, List.length_cons]
    omega

theorem splitB_join (c : UInt8) (s : ByteArray) (x : List UInt8) (r : List (List UInt8)) (e : s.data.toList = Lib.join (x :: r) [c]) (h : ∀ y ∈ x :: r, c ∉ y) :
    Lib.countB s ⟨#[c]⟩ = r.length ∧ (Lib.splitB ⟨#[c]⟩ 0 (Lib.countB s ⟨#[c]⟩) s).map (·.data.toList) = x :: r := by
  have e1 : Lib.countB s ⟨#[c]⟩ = r.length := by
    show Lib.count s.data.toList [c] = _
    rw [Lib.count_one, e, count_join c r x h]
  refine ⟨e1, ?_⟩
  rw [e1, Lib.splitB_data, e]
  exact splitK_join c r x h

/-- A form's words filled: NAME with a name, each N with the next number. -/
def fillW : List (List UInt8) → List UInt8 → List Int → List (List UInt8)
  | [], _, _ => []
  | w :: ws, nm, ns =>
    if w = [78, 65, 77, 69] then nm :: fillW ws nm ns
    else if w = [78] then Lib.itoa (ns.headD 0) :: fillW ws nm ns.tail
    else w :: fillW ws nm ns
def usedN (ws : List (List UInt8)) : Nat := ws.count [78]

theorem fillW_snoc (nm : List UInt8) (w : List UInt8) : ∀ (ws : List (List UInt8)) (ns : List Int), fillW (ws ++ [w]) nm ns = fillW ws nm ns ++ fillW [w] nm (ns.drop (usedN ws))
  | [], ns => by simp [fillW, usedN]
  | v :: ws, ns => by
    rw [List.cons_append, fillW, fillW]
    by_cases h1 : v = [78, 65, 77, 69]
    · subst h1
      rw [if_pos rfl, if_pos rfl, fillW_snoc nm w ws ns, List.cons_append]
      simp [usedN]
    · rw [if_neg h1, if_neg h1]
      by_cases h2 : v = [78]
      · subst h2
        rw [if_pos rfl, if_pos rfl, fillW_snoc nm w ws ns.tail, List.cons_append]
        have e : usedN ([78] :: ws) = usedN ws + 1 := by simp [usedN]
        rw [e, ← List.drop_one, List.drop_drop, Nat.add_comm 1]
      · rw [if_neg h2, if_neg h2, fillW_snoc nm w ws ns, List.cons_append]
        have e : usedN (v :: ws) = usedN ws := by simp [usedN, h2]
        rw [e]

theorem fillW_length (nm : List UInt8) : ∀ (ws : List (List UInt8)) (ns : List Int), (fillW ws nm ns).length = ws.length
  | [], _ => rfl
  | v :: ws, ns => by
    rw [fillW]
    split
    · rw [List.length_cons, List.length_cons, fillW_length nm ws]
    · split
      · rw [List.length_cons, List.length_cons, fillW_length nm ws]
      · rw [List.length_cons, List.length_cons, fillW_length nm ws]

theorem usedN_more {ws : List (List UInt8)} {q : Nat} {v : List UInt8} (h : ws[q]? = some v) : usedN (ws.take (q + 1)) = usedN (ws.take q) + if v = [78] then 1 else 0 := by
  rw [List.take_add_one, h]
  simp only [usedN, Option.toList_some, List.count_append, List.count_cons, List.count_nil]
  by_cases e : v = [78]
  · simp [e]
  · simp [e]

theorem fillW_more {ws : List (List UInt8)} {q : Nat} {v : List UInt8} (h : ws[q]? = some v) (nm : List UInt8) (ns : List Int) : fillW (ws.take (q + 1)) nm ns = fillW (ws.take q) nm ns ++ fillW [v] nm (ns.drop (usedN (ws.take q))) := by
  rw [List.take_add_one, h]
  exact fillW_snoc nm v _ ns

theorem usedN_le (ws : List (List UInt8)) (q : Nat) : usedN (ws.take q) ≤ usedN ws := List.Sublist.count_le _ (List.take_sublist ..)
theorem usedN_lt {ws : List (List UInt8)} {q : Nat} (h : ws[q]? = some [78]) : usedN (ws.take q) < usedN ws := by
  have h1 := usedN_more h
  have h2 := usedN_le ws (q + 1)
  rw [if_pos rfl] at h1
  omega

/-- The length of joined words, where each has at most k bytes. -/
theorem join_bound (c : UInt8) (k : Nat) : ∀ (ws : List (List UInt8)), (∀ w ∈ ws, w.length ≤ k) → (Lib.join ws [c]).length ≤ (k + 1) * ws.length
  | [], _ => by simp [Lib.join]
  | x :: r, h => by
    have h1 : Lib.lens (x :: r) ≤ k * (x :: r).length := by
      have : ∀ (l : List (List UInt8)), (∀ w ∈ l, w.length ≤ k) → Lib.lens l ≤ k * l.length := by
        intro l
        induction l with
        | nil => intro _; simp [Lib.lens]
        | cons y l ih =>
          intro hl
          have a := ih (fun w hw => hl w (List.mem_cons_of_mem _ hw))
          have b := hl y (List.mem_cons_self ..)
          have e : Lib.lens (y :: l) = y.length + Lib.lens l := by simp [Lib.lens]
          rw [e, List.length_cons, Nat.mul_add, Nat.mul_one]
          omega
      exact this _ h
    rw [Lib.join_length, Nat.add_mul, Nat.one_mul]
    simp only [List.length_cons, List.length_nil] at h1 ⊢
    omega

end Go.Proofs.YtpdcmpojjchobaaDoor

/-
  strings.Split at a separator of one byte: the pieces, in a new block, and nothing else.
-/
namespace Go.Proofs.YtpdcmpojjchobaaDoor
open Go.RowKit Go.Shelf

theorem txt_of (s : ByteArray) : txt s.data.toList = s := by
  apply ByteArray.ext
  simp [txt]

theorem infoStr9 : (Tryd.prog.info? 9).map (fun i => (i.zero, i.size, i.bytes)) = some (some (.string ByteArray.empty), 1, 16) := by kernel_rfl

theorem countB_one (s : ByteArray) (c : UInt8) : Lib.countB s ⟨#[c]⟩ = s.data.toList.count c := by
  show Lib.count s.data.toList [c] = _
  exact Lib.count_one c _

set_option maxRecDepth 100000 in
theorem split_one (s : ByteArray) (c : UInt8) (x : List UInt8) (r : List (List UInt8)) (w : World) (hs : s.size < 4294967281) (e : s.data.toList = Lib.join (x :: r) [c]) (h : ∀ y ∈ x :: r, c ∉ y) :
    Calls Tryd.prog 103 #[.string s, .string ⟨#[c]⟩] w fun e w' =>
      e = .returned (.slice (some ⟨w.heap.size, 0, none⟩) (r.length + 1) (r.length + 1)) ∧ w' = w.alloc (.cells ((x :: r).map fun y => Value.string (txt y)).toArray 9) := by
  obtain ⟨h1, h2⟩ := splitB_join c s x r e h
  have hle : r.length ≤ s.size := by
    rw [← h1, countB_one]
    exact List.count_le_length
  have g := Any.strings_genSplit_core Tryd.lays221 infoStr9 s ⟨#[c]⟩ 0 (-1) (r.length + 1) w hs (Nat.le_refl 1) (Nat.zero_le _)
    (fun x _ _ => (Tryd.strings_Index_one x c _).mono fun e w' ⟨a, b⟩ => ⟨by rw [a, ← Lib.index_one], b⟩)
    ((Tryd.strings_Count_one s c w).mono fun e w' ⟨a, b⟩ => ⟨by rw [a, countB_one]; rfl, b⟩) (by decide) (by decide) (by rw [if_pos (by decide), h1]; omega)
  have e3 : Lib.splitB ⟨#[c]⟩ 0 (r.length + 1 - 1) s = (x :: r).map txt := by
    rw [h1] at h2
    rw [Nat.add_sub_cancel, ← h2, List.map_map]
    refine (List.map_id'' ?_ _).symm
    intro y
    exact txt_of y
  rw [e3] at g
  have e4 : ((x :: r).map txt).length = r.length + 1 := by simp
  have e5 : Lib.cellsOf ((x :: r).map txt) (r.length + 1) = ((x :: r).map fun y => Value.string (txt y)).toArray := by
    rw [← e4, Lib.cellsOf_full, List.map_map]
    rfl
  rw [e4, e5] at g
  have G := Lib.hid g
  clear g e3 e4 e5 h1 h2 e h hle
  go_enter Tryd.func103, Tryd.ntmps103
  go_wp2_with fail
  refine G.out.mono ?_
  rintro e w' ⟨rfl, hw⟩
  have HW := Lib.hid hw
  clear hw
  go_wp2_with fail
  go_ret
  exact ⟨rfl, HW.out⟩

end Go.Proofs.YtpdcmpojjchobaaDoor

/-
  Rules as plain data: terrains, kinds, names, and when they are valid, in the program's order and in the reference's. No program is looked into.
-/
namespace Go.Proofs.YtpdcmpojjchobaaDoor
open Go.RowKit

structure Ter where
  name : ByteArray
  cost : List Int
  shift : Int
  height : Int
  blocks : Bool
structure Knd where
  name : ByteArray
  str : Int
  mov : Int
  stp : Int
  zone : Bool
  view : Int
structure Rul where
  ters : List Ter
  knds : List Knd
  stack : Int
  river : Int
  road : Int
  supply : Int
  turns : Int

def spB (lo hi n : Int) : Bool := decide (lo ≤ n) && decide (n ≤ hi)
def lowB (c : UInt8) : Bool := decide (97 ≤ (c.toNat : Int)) && decide ((c.toNat : Int) ≤ 122)
def lowFrom (l : List UInt8) : Bool := l.all lowB
def nameOk (s : ByteArray) : Bool := spB 1 8 s.size && lowFrom s.data.toList

/-- For each number below n. -/
def allN (n : Nat) (f : Nat → Bool) : Bool := (List.range n).all f
theorem allN_mk {n : Nat} {f : Nat → Bool} (h : ∀ j, j < n → f j = true) : allN n f = true := by
  unfold allN
  rw [List.all_eq_true]
  intro x hx
  exact h x (List.mem_range.1 hx)
theorem allN_no {n : Nat} {f : Nat → Bool} {k : Nat} (hk : k < n) (h : f k = false) : allN n f = false := by
  unfold allN
  rw [List.all_eq_false]
  exact ⟨k, List.mem_range.2 hk, by simp [h]⟩
theorem allN_at {n : Nat} {f : Nat → Bool} (h : allN n f = true) {j : Nat} (hj : j < n) : f j = true := by
  unfold allN at h
  rw [List.all_eq_true] at h
  exact h j (List.mem_range.2 hj)
theorem allN_iff {n : Nat} {f : Nat → Bool} : allN n f = true ↔ ∀ j, j < n → f j = true := ⟨fun h _ hj => allN_at h hj, allN_mk⟩

def hasS (l : List ByteArray) (x : ByteArray) : Bool := decide (0 ≤ Lib.idxOfS l x)
theorem hasS_iff (l : List ByteArray) (x : ByteArray) : hasS l x = true ↔ x ∈ l := by
  unfold hasS
  rw [decide_eq_true_iff]
  exact Lib.idxOfS_nonneg_iff l x
theorem hasS_no {l : List ByteArray} {x : ByteArray} (h : x ∉ l) : hasS l x = false := by
  cases e : hasS l x
  · rfl
  · exact absurd ((hasS_iff l x).1 e) h
def nameAt (l : List ByteArray) (k : Nat) : Bool := nameOk (l.getD k ByteArray.empty) && !hasS (l.take k) (l.getD k ByteArray.empty)
/-- All names are valid and differ. -/
def namesOk (l : List ByteArray) : Bool := allN l.length (nameAt l)

def numT (nk : Nat) (t : Ter) : Bool := decide (t.cost.length = nk) && (t.cost.all (spB 0 9) && (spB (-3) 3 t.shift && spB 0 3 t.height))
def numK (k : Knd) : Bool := spB 1 9 k.str && (spB 0 9 k.mov && (spB 1 4 k.stp && spB 0 4 k.view))
def limB (a b c d e : Int) : Bool := spB 1 4 a && (spB 0 9 b && (spB 1 9 c && (spB 0 20 d && spB 1 30 e)))
def tNames (l : List Ter) : List ByteArray := l.map (·.name)
def kNames (l : List Knd) : List ByteArray := l.map (·.name)
/-- Valid rules, as the program asks. -/
def rulOk (r : Rul) : Bool :=
  (spB 1 6 r.ters.length && (spB 1 4 r.knds.length && limB r.stack r.river r.road r.supply r.turns)) &&
    (r.ters.all (numT r.knds.length) && (r.knds.all numK && (namesOk (tNames r.ters) && namesOk (kNames r.knds))))

/-- The place of a name, or -1. -/
def idxS (l : List ByteArray) (x : ByteArray) : Int := Lib.idxOfS l x
/-- A terrain at its place, as the reference asks. -/
def terAt (l : List Ter) (nk : Nat) (i : Nat) (t : Ter) : Bool :=
  nameOk t.name && (decide (idxS (tNames l) t.name = i) && (decide (t.cost.length = nk) && (t.cost.all (spB 0 9) && (spB (-3) 3 t.shift && spB 0 3 t.height))))
def kndAt (l : List Knd) (i : Nat) (k : Knd) : Bool :=
  nameOk k.name && (decide (idxS (kNames l) k.name = i) && (spB 1 9 k.str && (spB 0 9 k.mov && (spB 1 4 k.stp && spB 0 4 k.view))))
def terF (l : List Ter) (nk : Nat) (i : Nat) : Bool := match l[i]? with | some t => terAt l nk i t | none => true
def kndF (l : List Knd) (i : Nat) : Bool := match l[i]? with | some k => kndAt l i k | none => true
theorem terF_at {l : List Ter} {nk i : Nat} {t : Ter} (h : l[i]? = some t) : terF l nk i = terAt l nk i t := by unfold terF; rw [h]
theorem kndF_at {l : List Knd} {i : Nat} {k : Knd} (h : l[i]? = some k) : kndF l i = kndAt l i k := by unfold kndF; rw [h]

theorem firstOf (f : Nat → ByteArray) (x : ByteArray) : ∀ j, f j = x → ∃ m, m ≤ j ∧ f m = x ∧ ∀ i, i < m → f i ≠ x := by
  intro j
  induction j using Nat.strongRecOn with
  | _ j ih =>
    intro h
    by_cases hx : ∃ i, i < j ∧ f i = x
    · obtain ⟨i, hi, e⟩ := hx
      obtain ⟨m, hm, em, hf⟩ := ih i hi e
      exact ⟨m, by omega, em, hf⟩
    · exact ⟨j, Nat.le_refl _, h, fun i hi e => hx ⟨i, hi, e⟩⟩
theorem idxS_first {l : List ByteArray} {k : Nat} (hk : k < l.length) (hn : ∀ j, j < k → l.getD j ByteArray.empty ≠ l.getD k ByteArray.empty) : idxS l (l.getD k ByteArray.empty) = k := by
  have := Lib.idxOfS_hit l l.length k (l.getD k ByteArray.empty) hk (Nat.le_refl _) rfl hn
  rwa [List.take_length] at this
theorem idxS_eq {l : List ByteArray} {k : Nat} (hk : k < l.length) : decide (idxS l (l.getD k ByteArray.empty) = k) = !hasS (l.take k) (l.getD k ByteArray.empty) := by
  have hgd : ∀ j, j < l.length → l[j]? = some (l.getD j ByteArray.empty) := fun j hj => by simp [List.getD, List.getElem?_eq_getElem hj]
  by_cases hm : l.getD k ByteArray.empty ∈ l.take k
  · rw [(hasS_iff _ _).2 hm]
    obtain ⟨j, hj, e⟩ := List.mem_iff_getElem.1 hm
    have hjk : j < k := by simp at hj; omega
    have ej : l.getD j ByteArray.empty = l.getD k ByteArray.empty := by
      rw [← e]
      simp [List.getD, List.getElem?_eq_getElem (show j < l.length by omega)]
    obtain ⟨m, hmj, em, hf⟩ := firstOf (fun j => l.getD j ByteArray.empty) _ j ej
    have em : l.getD m ByteArray.empty = l.getD k ByteArray.empty := em
    have hf : ∀ i, i < m → l.getD i ByteArray.empty ≠ l.getD k ByteArray.empty := hf
    have h1 : idxS l (l.getD m ByteArray.empty) = m := idxS_first (by omega) (fun j hj => by rw [em]; exact hf j hj)
    rw [em] at h1
    rw [h1]
    have : ¬ ((m : Int) = k) := by omega
    simp [this]
  · rw [hasS_no hm]
    have := idxS_first hk (fun j hj e => hm (by
      rw [← e]
      have : (l.take k)[j]? = some (l.getD j ByteArray.empty) := by rw [List.getElem?_take, if_pos hj]; exact hgd j (by omega)
      exact List.mem_of_getElem? this))
    rw [decide_eq_true this]
    rfl

theorem tName_at {l : List Ter} {i : Nat} {t : Ter} (h : l[i]? = some t) : (tNames l).getD i ByteArray.empty = t.name := by simp [tNames, List.getD, h]
theorem kName_at {l : List Knd} {i : Nat} {t : Knd} (h : l[i]? = some t) : (kNames l).getD i ByteArray.empty = t.name := by simp [kNames, List.getD, h]
theorem lt_of_at {α : Type} {l : List α} {i : Nat} {t : α} (h : l[i]? = some t) : i < l.length := (List.getElem?_eq_some_iff.1 h).1
theorem terF_parts {l : List Ter} {nk i : Nat} {t : Ter} (h : l[i]? = some t) : terF l nk i = (nameAt (tNames l) i && numT nk t) := by
  have e := idxS_eq (l := tNames l) (k := i) (by simpa [tNames] using lt_of_at h)
  rw [tName_at h] at e
  rw [terF_at h]
  unfold terAt nameAt numT
  rw [tName_at h, e, Bool.and_assoc]
theorem kndF_parts {l : List Knd} {i : Nat} {t : Knd} (h : l[i]? = some t) : kndF l i = (nameAt (kNames l) i && numK t) := by
  have e := idxS_eq (l := kNames l) (k := i) (by simpa [kNames] using lt_of_at h)
  rw [kName_at h] at e
  rw [kndF_at h]
  unfold kndAt nameAt numK
  rw [kName_at h, e, Bool.and_assoc]
theorem terF_all {l : List Ter} {nk : Nat} : allN l.length (terF l nk) = true ↔ l.all (numT nk) = true ∧ namesOk (tNames l) = true := by
  unfold namesOk
  rw [allN_iff, allN_iff, List.all_eq_true]
  have hlen : (tNames l).length = l.length := by simp [tNames]
  rw [hlen]
  constructor
  · intro h
    refine ⟨fun t ht => ?_, fun j hj => ?_⟩
    · obtain ⟨i, hi, rfl⟩ := List.mem_iff_getElem.1 ht
      have := h i hi
      rw [terF_parts (List.getElem?_eq_getElem hi), Bool.and_eq_true] at this
      exact this.2
    · have := h j hj
      rw [terF_parts (List.getElem?_eq_getElem hj), Bool.and_eq_true] at this
      exact this.1
  · rintro ⟨h1, h2⟩ j hj
    rw [terF_parts (List.getElem?_eq_getElem hj), Bool.and_eq_true]
    exact ⟨h2 j hj, h1 _ (List.getElem_mem hj)⟩
theorem kndF_all {l : List Knd} : allN l.length (kndF l) = true ↔ l.all numK = true ∧ namesOk (kNames l) = true := by
  unfold namesOk
  rw [allN_iff, allN_iff, List.all_eq_true]
  have hlen : (kNames l).length = l.length := by simp [kNames]
  rw [hlen]
  constructor
  · intro h
    refine ⟨fun t ht => ?_, fun j hj => ?_⟩
    · obtain ⟨i, hi, rfl⟩ := List.mem_iff_getElem.1 ht
      have := h i hi
      rw [kndF_parts (List.getElem?_eq_getElem hi), Bool.and_eq_true] at this
      exact this.2
    · have := h j hj
      rw [kndF_parts (List.getElem?_eq_getElem hj), Bool.and_eq_true] at this
      exact this.1
  · rintro ⟨h1, h2⟩ j hj
    rw [kndF_parts (List.getElem?_eq_getElem hj), Bool.and_eq_true]
    exact ⟨h2 j hj, h1 _ (List.getElem_mem hj)⟩

/-- Valid rules, as the reference asks. -/
def rulS (r : Rul) : Bool :=
  (spB 1 6 r.ters.length && spB 1 4 r.knds.length) && (allN r.ters.length (terF r.ters r.knds.length) && (allN r.knds.length (kndF r.knds) && limB r.stack r.river r.road r.supply r.turns))
theorem rulS_eq (r : Rul) : rulS r = rulOk r := by
  rw [Bool.eq_iff_iff]
  unfold rulS rulOk
  simp only [Bool.and_eq_true, terF_all, kndF_all]
  constructor
  · rintro ⟨⟨a, b⟩, ⟨c, d⟩, ⟨e, f⟩, g⟩
    exact ⟨⟨a, b, g⟩, c, e, d, f⟩
  · rintro ⟨⟨a, b, g⟩, c, e, d, f⟩
    exact ⟨⟨a, b⟩, ⟨c, d⟩, ⟨e, f⟩, g⟩

end Go.Proofs.YtpdcmpojjchobaaDoor

/-
  The lines of kinds and terrains as bytes: as the reference adds them up, and as filled forms.
-/
namespace Go.Proofs.YtpdcmpojjchobaaDoor
open Go.RowKit

def kindWs : List (List UInt8) := [[107, 105, 110, 100], [78, 65, 77, 69], [115, 116, 114, 101, 110, 103, 116, 104], [78], [109, 111, 118, 101, 115], [78], [115, 116, 101, 112, 115], [78], [118, 105, 101, 119], [78]]
def kindTx (k : Knd) : List UInt8 :=
  [107, 105, 110, 100, 32] ++ k.name.data.toList ++ [32, 115, 116, 114, 101, 110, 103, 116, 104, 32] ++ Lib.decDigits k.str.toNat ++ [32, 109, 111, 118, 101, 115, 32] ++ Lib.decDigits k.mov.toNat ++ [32, 115, 116, 101, 112, 115, 32] ++ Lib.decDigits k.stp.toNat ++ [32, 118, 105, 101, 119, 32] ++ Lib.decDigits k.view.toNat ++ (if k.zone then [32, 122, 111, 110, 101] else [])
def costsT (l : List Int) : List UInt8 := l.flatMap fun n => 32 :: Lib.decDigits n.toNat
def terTx (t : Ter) : List UInt8 :=
  [116, 101, 114, 114, 97, 105, 110, 32] ++ t.name.data.toList ++ [32, 115, 104, 105, 102, 116, 32] ++ Lib.itoa t.shift ++ [32, 104, 101, 105, 103, 104, 116, 32] ++ Lib.decDigits t.height.toNat ++ [32, 99, 111, 115, 116] ++ costsT t.cost ++ (if t.blocks then [32, 98, 108, 111, 99, 107, 115] else [])
def terWs (n : Nat) : List (List UInt8) := [[116, 101, 114, 114, 97, 105, 110], [78, 65, 77, 69], [115, 104, 105, 102, 116], [78], [104, 101, 105, 103, 104, 116], [78], [99, 111, 115, 116]] ++ List.replicate n [78]

theorem itoa_pos {n : Int} (h : 0 ≤ n) : Lib.itoa n = Lib.decDigits n.toNat := by
  unfold Lib.itoa
  rw [if_neg (by omega)]

theorem kind_fill (nm : List UInt8) (a b c v : Int) : Lib.join (fillW kindWs nm [a, b, c, v]) [32] =
    [107, 105, 110, 100, 32] ++ nm ++ [32, 115, 116, 114, 101, 110, 103, 116, 104, 32] ++ Lib.itoa a ++ [32, 109, 111, 118, 101, 115, 32] ++ Lib.itoa b ++ [32, 115, 116, 101, 112, 115, 32] ++ Lib.itoa c ++ [32, 118, 105, 101, 119, 32] ++ Lib.itoa v := by
  simp [fillW, kindWs, Lib.join_cons, Lib.joinTail]
theorem kind_tx (k : Knd) (h1 : 0 ≤ k.str) (h2 : 0 ≤ k.mov) (h3 : 0 ≤ k.stp) (h4 : 0 ≤ k.view) :
    kindTx k = Lib.join (fillW kindWs k.name.data.toList [k.str, k.mov, k.stp, k.view]) [32] ++ (if k.zone then [32, 122, 111, 110, 101] else []) := by
  rw [kind_fill, itoa_pos h1, itoa_pos h2, itoa_pos h3, itoa_pos h4]
  rfl

theorem fill_costs (nm : List UInt8) : ∀ (l : List Int), fillW (List.replicate l.length [78]) nm l = l.map Lib.itoa
  | [] => rfl
  | x :: l => by
    rw [List.length_cons, List.replicate_succ, fillW, if_neg (by decide), if_pos rfl]
    simp [fill_costs nm l]
theorem costs_tail : ∀ (l : List Int), (∀ x ∈ l, 0 ≤ x) → Lib.joinTail [32] (l.map Lib.itoa) = costsT l
  | [], _ => rfl
  | x :: l, h => by
    have h1 := costs_tail l (fun y hy => h y (List.mem_cons_of_mem _ hy))
    have h2 := itoa_pos (h x (List.mem_cons_self ..))
    simp only [Lib.joinTail, costsT, List.map_cons, List.flatten_cons, List.flatMap_cons] at h1 ⊢
    rw [h1, h2]
    simp
theorem ter_tx (t : Ter) (h1 : 0 ≤ t.height) (h2 : ∀ x ∈ t.cost, 0 ≤ x) :
    terTx t = Lib.join (fillW (terWs t.cost.length) t.name.data.toList (t.shift :: t.height :: t.cost)) [32] ++ (if t.blocks then [32, 98, 108, 111, 99, 107, 115] else []) := by
  have e : fillW (terWs t.cost.length) t.name.data.toList (t.shift :: t.height :: t.cost) = [[116, 101, 114, 114, 97, 105, 110], t.name.data.toList, [115, 104, 105, 102, 116], Lib.itoa t.shift, [104, 101, 105, 103, 104, 116], Lib.itoa t.height, [99, 111, 115, 116]] ++ t.cost.map Lib.itoa := by
    simp [fillW, terWs, fill_costs]
  have e2 : Lib.joinTail [32] ([t.name.data.toList, [115, 104, 105, 102, 116], Lib.itoa t.shift, [104, 101, 105, 103, 104, 116], Lib.itoa t.height, [99, 111, 115, 116]] ++ t.cost.map Lib.itoa) = Lib.joinTail [32] [t.name.data.toList, [115, 104, 105, 102, 116], Lib.itoa t.shift, [104, 101, 105, 103, 104, 116], Lib.itoa t.height, [99, 111, 115, 116]] ++ costsT t.cost := by
    rw [← costs_tail _ h2]
    simp [Lib.joinTail]
  rw [e, List.cons_append, Lib.join_cons, e2, itoa_pos h1]
  simp [terTx, Lib.joinTail]

/-- Lengths. -/
theorem digits_len2 {n : Nat} (h : n < 100) : (Lib.decDigits n).length ≤ 2 := by
  have e : (Lib.decDigits n).length = Lib.nDigits n := by simp [Lib.decDigits_eq]
  rw [e]
  by_cases h0 : n < 10
  · rw [Lib.nDigits_small h0]; omega
  · rw [Lib.nDigits_big h0, Lib.nDigits_small (by omega)]; omega
theorem costsT_len : ∀ (l : List Int), (∀ x ∈ l, x < 100) → (costsT l).length ≤ 3 * l.length
  | [], _ => by simp [costsT]
  | x :: l, h => by
    have h1 := costsT_len l (fun y hy => h y (List.mem_cons_of_mem _ hy))
    have h2 := h x (List.mem_cons_self ..)
    have h3 := digits_len2 (n := x.toNat) (by omega)
    have e : costsT (x :: l) = (32 :: Lib.decDigits x.toNat) ++ costsT l := by simp [costsT]
    rw [e, List.length_append, List.length_cons, List.length_cons]
    omega
theorem kindTx_len (k : Knd) (h0 : k.name.size ≤ 8) (h1 : k.str < 100) (h2 : k.mov < 100) (h3 : k.stp < 100) (h4 : k.view < 100) : (kindTx k).length ≤ 64 := by
  have a1 := digits_len2 (n := k.str.toNat) (by omega)
  have a2 := digits_len2 (n := k.mov.toNat) (by omega)
  have a3 := digits_len2 (n := k.stp.toNat) (by omega)
  have a4 := digits_len2 (n := k.view.toNat) (by omega)
  have a0 : k.name.data.toList.length ≤ 8 := h0
  unfold kindTx
  cases k.zone <;> simp only [List.length_append, List.length_cons, List.length_nil, Bool.false_eq_true, if_true, if_false] <;> omega
theorem itoa_len2 {n : Int} (h : -100 < n) (h' : n < 100) : (Lib.itoa n).length ≤ 3 := by
  unfold Lib.itoa
  split
  · have := digits_len2 (n := n.natAbs) (by omega)
    rw [List.length_cons]
    omega
  · have := digits_len2 (n := n.toNat) (by omega)
    omega
theorem terTx_len (t : Ter) (h0 : t.name.size ≤ 8) (h1 : -100 < t.shift) (h2 : t.shift < 100) (h3 : t.height < 100) (h4 : ∀ x ∈ t.cost, x < 100) : (terTx t).length ≤ 64 + 3 * t.cost.length := by
  have a1 := itoa_len2 h1 h2
  have a3 := digits_len2 (n := t.height.toNat) (by omega)
  have a4 := costsT_len t.cost h4
  have a0 : t.name.data.toList.length ≤ 8 := h0
  unfold terTx
  cases t.blocks <;> simp only [List.length_append, List.length_cons, List.length_nil, Bool.false_eq_true, if_true, if_false] <;> omega

end Go.Proofs.YtpdcmpojjchobaaDoor

/-
  A form filled by the program: its words, split at the blanks, NAME and N replaced, and joined again.
-/
namespace Go.Proofs.YtpdcmpojjchobaaDoor
open Go.RowKit

theorem drop_at {α : Type} {l : List α} {k : Nat} {x : α} (h : l[k]? = some x) : l.drop k = x :: l.drop (k + 1) := by
  obtain ⟨hk, rfl⟩ := List.getElem?_eq_some_iff.1 h
  exact List.drop_eq_getElem_cons hk
/-- The words while the form is being filled: the first q are done. -/
def doneW (ws : List (List UInt8)) (nm : List UInt8) (ns : List Int) (q : Nat) : List (List UInt8) := fillW (ws.take q) nm ns ++ ws.drop q
theorem doneW_zero (ws : List (List UInt8)) (nm : List UInt8) (ns : List Int) : doneW ws nm ns 0 = ws := by simp [doneW, fillW]
theorem doneW_all (ws : List (List UInt8)) (nm : List UInt8) (ns : List Int) : doneW ws nm ns ws.length = fillW ws nm ns := by simp [doneW]
theorem doneW_len (ws : List (List UInt8)) (nm : List UInt8) (ns : List Int) (q : Nat) (h : q ≤ ws.length) : (doneW ws nm ns q).length = ws.length := by
  rw [doneW, List.length_append, fillW_length, List.length_take, List.length_drop]
  omega
theorem doneW_here {ws : List (List UInt8)} {q : Nat} {v : List UInt8} (h : ws[q]? = some v) (nm : List UInt8) (ns : List Int) : (doneW ws nm ns q)[q]? = some v := by
  have hq := (List.getElem?_eq_some_iff.1 h).1
  rw [doneW, List.getElem?_append_right (by rw [fillW_length, List.length_take]; omega), fillW_length, List.length_take, List.getElem?_drop]
  rw [show q + (q - min q ws.length) = q by omega]
  exact h
theorem doneW_next {ws : List (List UInt8)} {q : Nat} {v : List UInt8} (h : ws[q]? = some v) (nm : List UInt8) (ns : List Int) (y : List UInt8) (hy : fillW [v] nm (ns.drop (usedN (ws.take q))) = [y]) :
    doneW ws nm ns (q + 1) = (doneW ws nm ns q).set q y := by
  have hq := (List.getElem?_eq_some_iff.1 h).1
  have e1 : (fillW (ws.take q) nm ns).length = q := by rw [fillW_length, List.length_take]; omega
  have e2 : ws.drop q = v :: ws.drop (q + 1) := by
    obtain ⟨hk, rfl⟩ := List.getElem?_eq_some_iff.1 h
    exact List.drop_eq_getElem_cons hk
  rw [doneW, doneW, fillW_more h, hy, List.set_append_right _ _ (by omega), e1, Nat.sub_self, e2, List.set_cons_zero, List.append_assoc]
  rfl

/-- The cells of a list of words, from the start of block B. -/
def WordsAt (w : World) (B : Nat) (l : List (List UInt8)) : Prop := ∀ j y, l[j]? = some y → w.cell? ⟨B, j, none⟩ = some (.string (txt y))
theorem WordsAt.set {w : World} {B q : Nat} {l : List (List UInt8)} (h : WordsAt w B l) (hq : q < l.length) (y : List UInt8) (hc : ∃ u, w.cell? ⟨B, q, none⟩ = some u) : WordsAt (w.setCell ⟨B, q, none⟩ (.string (txt y))) B (l.set q y) := by
  intro j z hz
  by_cases e : j = q
  · subst e
    rw [List.getElem?_set_self hq] at hz
    obtain rfl := Option.some.inj hz
    obtain ⟨u, hu⟩ := hc
    exact World.cell?_setCell_same _ _ _ hu
  · rw [List.getElem?_set_ne (fun e2 => e e2.symm)] at hz
    have := h j z hz
    rw [World.cell?_setCell_other]
    · exact this
    · intro e2
      injection e2 with _ e3
      exact e e3.symm

theorem WordsAt.same {w : World} {B q : Nat} {l : List (List UInt8)} {y : List UInt8} (h : WordsAt w B l) (hy : l[q]? = some y) : WordsAt w B (l.set q y) := by
  intro j z hz
  by_cases e : j = q
  · subst e
    rw [List.getElem?_set_self (List.getElem?_eq_some_iff.1 hy).1] at hz
    obtain rfl := Option.some.inj hz
    exact h j _ hy
  · rw [List.getElem?_set_ne (fun e2 => e e2.symm)] at hz
    exact h j z hz
theorem bytes_ne {a b : List UInt8} (h : a ≠ b) : txt a ≠ txt b := fun e => h (by
  have := congrArg (fun s : ByteArray => s.data.toList) e
  simpa [txt] using this)

set_option maxRecDepth 100000 in
set_option maxHeartbeats 8000000 in
theorem filledForm_any (form nm : ByteArray) (x0 : List UInt8) (r0 : List (List UInt8)) (ns : List Int) (g off n cap : Nat) (w : World)
    (hfs : form.size < 4294967281) (hf : form.data.toList = Lib.join (x0 :: r0) [32]) (hb : ∀ y ∈ x0 :: r0, (32 : UInt8) ∉ y) (hl : r0.length ≤ 1000)
    (hns : ns.length = n) (hn : n ≤ cap) (hcap : cap ≤ 9223372036854775807) (hu : usedN (x0 :: r0) ≤ n)
    (hc : ∀ i x, ns[i]? = some x → w.cell? ⟨g, off + i, none⟩ = some (.int .i64 x))
    (hi : ∀ x ∈ ns, ∀ w', Kp w w' → Calls Tryd.prog 89 #[.int .i64 x] w' fun e w'' => e = .returned (.string (txt (Lib.itoa x))) ∧ Kp w' w'')
    (hsz : (Lib.join (fillW (x0 :: r0) nm.data.toList ns) [32]).length ≤ 140737488355328) :
    Calls Tryd.prog 80 #[.string form, .string nm, .slice (some ⟨g, off, none⟩) n cap] w fun e w' => e = .returned (.string (txt (Lib.join (fillW (x0 :: r0) nm.data.toList ns) [32]))) ∧ Kp w w' := by
  have CS := Lib.hid (split_one form 32 x0 r0 w hfs hf hb)
  obtain ⟨ws, hws⟩ : ∃ ws, ws = x0 :: r0 := ⟨_, rfl⟩
  obtain ⟨m, hm⟩ : ∃ m, m = r0.length + 1 := ⟨_, rfl⟩
  have hwl : ws.length = m := by rw [hws, hm]; rfl
  rw [← hws] at hu hsz CS ⊢
  rw [← hm] at CS
  have hm2 : m ≤ 1001 := by omega
  have HWL := Lib.hid hwl
  have HNS := Lib.hid hns
  have HC := Lib.hid hc
  have HI := Lib.hid hi
  have HU := Lib.hid hu
  have HSZ := Lib.hid hsz
  have W0 : Hid (WordsAt (w.alloc (.cells (ws.map fun y => Value.string (txt y)).toArray 9)) w.heap.size (doneW ws nm.data.toList ns 0)) := Lib.hid (by
    rw [doneW_zero]
    intro j y hy
    have : (ws.map fun y => Value.string (txt y)).toArray[j]? = some (.string (txt y)) := by simp [hy]
    simp [go_sem, hy])
  clear hfs hf hb hl hns hc hi hu hsz hws hm hwl
  go_enter Tryd.func80, Tryd.ntmps80
  go_wp2_with fail
  refine CS.out.mono ?_
  rintro e1 w1 ⟨rfl, hw1⟩
  have K0 : Kp w w1 := by rw [hw1]; exact (Kp.refl w).alloc _
  have W1 := Lib.hid W0.out
  have z1 : w.heap.size < w1.heap.size := by rw [hw1]; simp
  rw [← hw1] at W1
  have HW1 := Lib.hid hw1
  clear W0 CS hw1
  go_wp2_with fail
  go_loopw [2, 8, 9, 14] (fun v _ _ i wr => ∃ (q o p c : Nat), q ≤ m ∧ i = .int .i64 q ∧ v = .slice (some ⟨g, o, none⟩) p c ∧ p ≤ c ∧ c ≤ 9223372036854775807 ∧ Hid (p + usedN (ws.take q) = n) ∧ Hid (0 < p → o = off + usedN (ws.take q)) ∧ Hid (WordsAt wr w.heap.size (doneW ws nm.data.toList ns q)) ∧ w.heap.size < wr.heap.size ∧ Hid (∀ j, j < m → wr.frozen? ⟨w.heap.size, j, none⟩ = false) ∧ Kp w wr) (fun _ _ _ i _ => m - (intOf i).toNat)
  case atStart => exact ⟨0, off, n, cap, by omega, rfl, rfl, hn, hcap, Lib.hid (by simp [usedN]), Lib.hid (by simp [usedN]), W1, z1, Lib.hid (fun j hj => by rw [HW1.out]; simp [go_sem]), K0⟩
  case round =>
    clear W1 HW1 K0 z1
    obtain ⟨q, o, p, c, hq, rfl, rfl, hpc, hcc, HP, HO, HW, hz, HF, kr⟩ := hrel
    by_cases hlt : q < m
    · have hlt' : (q : Int) < m := by omega
      obtain ⟨y, hy⟩ : ∃ y, ws[q]? = some y := ⟨ws[q]'(by have := HWL.out; omega), List.getElem?_eq_getElem _⟩
      have a0 := HW.out q y (doneW_here hy _ _)
      have f0 := HF.out q hlt
      have HM := Lib.hid (usedN_more hy)
      have HLE := Lib.hid (usedN_le ws (q + 1))
      have HLEN : Hid (q < (doneW ws nm.data.toList ns q).length) := Lib.hid (by rw [doneW_len _ _ _ _ (by rw [HWL.out]; omega), HWL.out]; exact hlt)
      have HY := Lib.hid hy
      by_cases y1 : y = [78, 65, 77, 69]
      · have HNX : Hid (doneW ws nm.data.toList ns (q + 1) = (doneW ws nm.data.toList ns q).set q nm.data.toList) := Lib.hid (doneW_next hy _ _ _ (by rw [y1]; rfl))
        have HM2 : Hid (usedN (ws.take (q + 1)) = usedN (ws.take q)) := Lib.hid (by rw [HM.out, y1]; rfl)
        have HNM := Lib.hid (txt_of nm)
        have e0 : ((txt y).toList == (ByteArray.mk #[78, 65, 77, 69]).toList) = true := (Lib.bytes_beq_iff _ _).2 (by rw [y1]; rfl)
        have e0' : ((txt y).toList == [78, 65, 77, 69]) = true := by rw [Lib.toList_data]; simp [txt, y1]
        have HYY := Lib.hid y1
        clear hy y1
        go_wp2_with fail
        go_roundw
        case rel =>
          have hs := WordsAt.set HW.out HLEN.out nm.data.toList ⟨_, a0⟩
          rw [HNM.out] at hs
          exact ⟨q + 1, o, p, c, by omega, by go_num, rfl, hpc, hcc, Lib.hid (by rw [HM2.out]; exact HP.out), Lib.hid (by rw [HM2.out]; exact HO.out), Lib.hid (by rw [HNX.out]; exact hs), by simpa using hz, Lib.hid (fun j hj => by simpa [go_sem] using HF.out j hj), kr.setCell (Nat.le_refl _) _⟩
        case measure => simp [intOf]; omega
      · have e0 : ((txt y).toList == (ByteArray.mk #[78, 65, 77, 69]).toList) = false := (Lib.bytes_beq_false_iff _ _).2 (bytes_ne (b := [78, 65, 77, 69]) y1)
        have e0' : ((txt y).toList == [78, 65, 77, 69]) = false := by rw [Lib.toList_data]; simp [txt, y1]
        by_cases y2 : y = [78]
        · have hlt2 := usedN_lt (by rw [hy, y2] : ws[q]? = some [78])
          have hp0 : 0 < p := by have := HP.out; have := HU.out; omega
          obtain ⟨p', rfl⟩ : ∃ p', p = p' + 1 := ⟨p - 1, by omega⟩
          obtain ⟨c', rfl⟩ : ∃ c', c = c' + 1 := ⟨c - 1, by omega⟩
          have hoo := HO.out hp0
          subst hoo
          obtain ⟨x, hx⟩ : ∃ x, ns[usedN (ws.take q)]? = some x := ⟨ns[usedN (ws.take q)]'(by have := HP.out; have := HNS.out; omega), List.getElem?_eq_getElem _⟩
          have b0 := kr.cell (HC.out _ x hx)
          have CX := Lib.hid (HI.out x (List.mem_of_getElem? hx) _ kr)
          have HNX : Hid (doneW ws nm.data.toList ns (q + 1) = (doneW ws nm.data.toList ns q).set q (Lib.itoa x)) := Lib.hid (doneW_next hy _ _ _ (by
            rw [y2, fillW, if_neg (by decide), if_pos rfl, fillW]
            congr 1
            have : (ns.drop (usedN (ws.take q))).headD 0 = x := by
              rw [drop_at hx]
              rfl
            rw [this]))
          have HM2 : Hid (usedN (ws.take (q + 1)) = usedN (ws.take q) + 1) := Lib.hid (by rw [HM.out, y2]; rfl)
          have e1 : ((txt y).toList == (ByteArray.mk #[78]).toList) = true := (Lib.bytes_beq_iff _ _).2 (by rw [y2]; rfl)
          have e1' : ((txt y).toList == [78]) = true := by rw [Lib.toList_data]; simp [txt, y2]
          have b00 : w.heap.size < wr.heap.size := hz
          have HYY := Lib.hid y2
          clear hy y1 y2 hx hlt2 hp0
          generalize usedN (ws.take q) = u at *
          go_wp2_with fail
          refine CX.out.mono ?_
          rintro e3 w3 ⟨rfl, k3⟩
          have a3 := k3.cell a0
          have f3 : w3.frozen? ⟨w.heap.size, q, none⟩ = false := (k3.liv ⟨a0, f0⟩).2
          have kr3 := kr.trans k3
          have hz3 : w.heap.size < w3.heap.size := Nat.lt_of_lt_of_le hz k3.size
          have HW3 : Hid (WordsAt w3 w.heap.size (doneW ws nm.data.toList ns q)) := Lib.hid (fun j z hz => k3.cell (HW.out j z hz))
          go_wp2_with fail
          go_roundw
          case rel =>
            have hs := WordsAt.set HW3.out HLEN.out (Lib.itoa x) ⟨_, a3⟩
            refine ⟨q + 1, if c' = 0 then off + u else off + u + 1, p', c', by omega, by go_num, by split <;> rfl, by omega, by omega, Lib.hid (by rw [HM2.out]; have := HP.out; omega), Lib.hid (fun h0 => by rw [HM2.out, if_neg (by omega)]; omega), Lib.hid (by rw [HNX.out]; exact hs), by simpa using hz3, Lib.hid (fun j hj => ?_), kr3.setCell (Nat.le_refl _) _⟩
            have hj2 : j < (doneW ws nm.data.toList ns q).length := by rw [doneW_len _ _ _ _ (by rw [HWL.out]; omega), HWL.out]; exact hj
            have := (k3.liv ⟨HW.out j _ (List.getElem?_eq_getElem hj2), HF.out j hj⟩).2
            simpa [go_sem] using this
          case measure => simp [intOf]; omega
        · have e1 : ((txt y).toList == (ByteArray.mk #[78]).toList) = false := (Lib.bytes_beq_false_iff _ _).2 (bytes_ne (b := [78]) y2)
          have e1' : ((txt y).toList == [78]) = false := by rw [Lib.toList_data]; simp [txt, y2]
          have HNX : Hid (doneW ws nm.data.toList ns (q + 1) = (doneW ws nm.data.toList ns q).set q y) := Lib.hid (doneW_next hy _ _ _ (by rw [fillW, if_neg y1, if_neg y2]; rfl))
          have HM2 : Hid (usedN (ws.take (q + 1)) = usedN (ws.take q)) := Lib.hid (by rw [HM.out, if_neg y2]; rfl)
          have HD := Lib.hid (doneW_here hy nm.data.toList ns)
          clear hy y1 y2
          go_wp2_with fail
          go_roundw
          case rel =>
            exact ⟨q + 1, o, p, c, by omega, by go_num, rfl, hpc, hcc, Lib.hid (by rw [HM2.out]; exact HP.out), Lib.hid (by rw [HM2.out]; exact HO.out), Lib.hid (by rw [HNX.out]; exact WordsAt.same HW.out HD.out), hz, HF, kr⟩
          case measure => simp [intOf]; omega
    · obtain rfl : q = m := by omega
      have HE : Hid (doneW ws nm.data.toList ns q = fillW ws nm.data.toList ns) := Lib.hid (by have h := doneW_all ws nm.data.toList ns; rw [HWL.out] at h; exact h)
      have HL : Hid ((fillW ws nm.data.toList ns).length = q) := Lib.hid (by rw [fillW_length, HWL.out])
      obtain ⟨xs, hxs⟩ : ∃ xs, xs = (fillW ws nm.data.toList ns).map txt := ⟨_, rfl⟩
      have hxl : xs.length = q := by rw [hxs, List.length_map, HL.out]
      have hxd : xs.map (·.data.toList) = fillW ws nm.data.toList ns := by
        rw [hxs, List.map_map]
        refine List.map_id'' ?_ _
        intro z
        simp [txt]
      have CJ := Lib.hid (Tryd.strings_Join w.heap.size 0 q xs ⟨#[32]⟩ wr (fun j x hx => by
        rw [hxs, List.getElem?_map, Option.map_eq_some_iff] at hx
        obtain ⟨z, hz, rfl⟩ := hx
        rw [Nat.zero_add]
        exact HW.out j z (by rw [HE.out]; exact hz)) hz (by omega) (by omega) (by rw [hxd]; exact HSZ.out))
      rw [hxl, hxd] at CJ
      clear hxl hxd hxs HW HE
      go_wp2_with fail
      refine CJ.out.mono ?_
      rintro e3 w3 ⟨rfl, k3⟩
      go_wp2_with fail
      go_ret
      exact ⟨rfl, kr.trans k3⟩

end Go.Proofs.YtpdcmpojjchobaaDoor

/-
  Names, the program's test and the reference's; slices of strings as lists: places of a string, whether it is there, and whether all names are valid and differ. Nothing that was there is changed.
-/
namespace Go.Proofs.YtpdcmpojjchobaaDoor
open Go.RowKit

theorem low_step {s : ByteArray} {k : Nat} (h : k < s.size) : s.data.toList.drop k = s[k] :: s.data.toList.drop (k + 1) := by
  rw [List.drop_eq_getElem_cons (by simpa using h)]
  rfl
theorem low_no {c : UInt8} {l : List UInt8} (h : lowB c = false) : lowFrom (c :: l) = false := by simp [lowFrom, h]
theorem low_go {c : UInt8} {l : List UInt8} (h : lowB c = true) : lowFrom (c :: l) = lowFrom l := by simp [lowFrom, h]

set_option maxHeartbeats 400000 in
theorem isName_any (s : ByteArray) (w : World) :
    Calls Tryd.prog 111 #[.string s] w fun e w' => e = .returned (.bool (nameOk s)) ∧ w = w' := by
  by_cases h0 : s.size = 0
  · have e : nameOk s = false := by simp [nameOk, spB, h0]
    rw [e]
    have h1 : s.toList = [] := by rw [ByteArray.toList_eq]; exact List.eq_nil_of_length_eq_zero (by simpa using h0)
    have h2 : s = ByteArray.empty := ByteArray.ext (Array.toList_inj.1 (by rw [ByteArray.toList_eq] at h1; rw [h1]; rfl))
    subst h2
    clear h0 h1 e
    go_enter Tryd.func111, Tryd.ntmps111
    go_wp2
    go_ret
    exact ⟨rfl, rfl⟩
  · by_cases h8 : 8 < s.size
    · have e : nameOk s = false := by simp [nameOk, spB]; omega
      rw [e]
      have hz : ((s.size : Int) == 0) = false := by simpa using h0
      clear e h0
      go_enter Tryd.func111, Tryd.ntmps111
      go_wp2
      go_ret
      exact ⟨rfl, rfl⟩
    · have e : nameOk s = lowFrom s.data.toList := by
        have : spB 1 8 s.size = true := by simp [spB]; omega
        simp [nameOk, this]
      rw [e]
      obtain ⟨R, hR⟩ : ∃ R, R = lowFrom s.data.toList := ⟨_, rfl⟩
      rw [← hR]
      have HR := Lib.hid hR
      have hz : ((s.size : Int) == 0) = false := by simpa using h0
      have h8' : decide (8 < s.size) = false := by simpa using h8
      clear e hR h0
      go_enter Tryd.func111, Tryd.ntmps111
      go_wp2
      go_loop [3, 14] (fun _ i => ∃ k : Nat, k ≤ s.size ∧ i = .int .i64 k ∧ Hid (lowFrom (s.data.toList.drop k) = R)) (fun _ i => s.size - (intOf i).toNat)
      case atStart => exact ⟨0, by omega, rfl, Lib.hid HR.out.symm⟩
      case round =>
        obtain ⟨k, hk, rfl, hE⟩ := hrel
        by_cases hlt : k < s.size
        · have HX := Lib.hid (low_step hlt)
          cases hok : lowB s[k]
          · have HE2 : Hid (R = false) := Lib.hid (by rw [← hE.out, HX.out]; exact low_no hok)
            have hd : s[k].toNat < 97 ∨ 122 < s[k].toNat := by simp [lowB] at hok; omega
            clear hok
            rcases hd with hd | hd
            · go_wp2
              go_ret
              exact ⟨ret_bool HE2.out.symm, rfl⟩
            · have hd2 : ¬ s[k].toNat < 97 := by omega
              go_wp2
              go_ret
              exact ⟨ret_bool HE2.out.symm, rfl⟩
          · have HE2 : Hid (lowFrom (s.data.toList.drop (k + 1)) = R) := Lib.hid (by rw [← hE.out, HX.out]; exact (low_go hok).symm)
            have hd : ¬ s[k].toNat < 97 ∧ ¬ 122 < s[k].toNat := by simp [lowB] at hok; omega
            obtain ⟨hd1, hd2⟩ := hd
            clear hok
            go_wp2
            go_round
            case rel => exact ⟨k + 1, by omega, by go_num, HE2⟩
            case measure => simp [intOf]; omega
        · obtain rfl : k = s.size := by omega
          go_wp2
          go_ret
          refine ⟨ret_bool ?_, rfl⟩
          rw [← hE.out, List.drop_of_length_le (by simp)]
          rfl

end Go.Proofs.YtpdcmpojjchobaaDoor

/-
  The six directions as plain functions on integers.
-/
namespace Go.Proofs.YtpdcmpojjchobaaDoor
open Go.RowKit

def dirQ (d : Int) : Int := if d = 0 then 1 else if d = 1 then 1 else if d = 2 then 0 else if d = 3 then -1 else if d = 4 then -1 else 0
def dirR (d : Int) : Int := if d = 0 then 0 else if d = 1 then -1 else if d = 2 then -1 else if d = 3 then 0 else if d = 4 then 1 else 1
theorem dir_bd (d : Int) : -1 ≤ dirQ d ∧ dirQ d ≤ 1 ∧ -1 ≤ dirR d ∧ dirR d ≤ 1 := by
  unfold dirQ dirR
  repeat' split
  all_goals omega

theorem six {d : Int} (h0 : 0 ≤ d) (h5 : d ≤ 5) : d = 0 ∨ d = 1 ∨ d = 2 ∨ d = 3 ∨ d = 4 ∨ d = 5 := by omega

end Go.Proofs.YtpdcmpojjchobaaDoor

/-
  The six directions: the table of the program and the two lists of the reference hold the same steps; the functions on neighbours return what plain functions on integers say, and change nothing that was there.
-/
namespace Go.Proofs.YtpdcmpojjchobaaDoor
open Go.RowKit

theorem isDirection_any (n : Int) (w : World) :
    Calls Tryd.prog 160 #[.int .i64 n] w fun e w' => e = .returned (.bool (decide (0 ≤ n) && decide (n ≤ 5))) ∧ w = w' := by
  by_cases h1 : 0 ≤ n
  · by_cases h2 : n < 6
    · have h3 : n ≤ 5 := by omega
      go_enter Tryd.func160, Tryd.ntmps160
      go_wp2
      go_ret
      exact ⟨ret_bool (by simp [h1, h3]), rfl⟩
    · have h3 : ¬ n ≤ 5 := by omega
      go_enter Tryd.func160, Tryd.ntmps160
      go_wp2
      go_ret
      exact ⟨ret_bool (by simp; omega), rfl⟩
  · go_enter Tryd.func160, Tryd.ntmps160
    go_wp2
    go_ret
    exact ⟨ret_bool (by simp; omega), rfl⟩


/-- The program's table of directions, as its text lays it. -/
def Tab (w : World) : Prop := ∀ d : Nat, d < 6 → w.cell? ⟨19, d * 2, none⟩ = some (.int .i64 (dirQ d)) ∧ w.cell? ⟨19, d * 2 + 1, none⟩ = some (.int .i64 (dirR d))
theorem Tab.keep {w w' : World} (h : Tab w) (hk : Kp w w') : Tab w' := fun d hd => ⟨hk.cell (h d hd).1, hk.cell (h d hd).2⟩

def nbOk (q r d : Int) : Bool := okH q r && (decide (0 ≤ d) && decide (d ≤ 5)) && okH (q + dirQ d) (r + dirR d)

/-- The answer of DirectionTo at the differences x, y. -/
def dirRes (x y : Int) : Int × Bool :=
  if x = 1 ∧ y = 0 then (0, true) else if x = 1 ∧ y = -1 then (1, true) else if x = 0 ∧ y = -1 then (2, true) else if x = -1 ∧ y = 0 then (3, true) else if x = -1 ∧ y = 1 then (4, true) else if x = 0 ∧ y = 1 then (5, true) else (0, false)
def noDir (x y : Int) (k : Nat) : Prop := ∀ j : Nat, j < k → ¬ (x = dirQ j ∧ y = dirR j)
theorem dirRes_at {x y : Int} {k : Nat} (hk : k < 6) (h : x = dirQ k ∧ y = dirR k) : dirRes x y = ((k : Int), true) := by
  obtain ⟨rfl, rfl⟩ := h
  match k, hk with
  | 0, _ => decide
  | 1, _ => decide
  | 2, _ => decide
  | 3, _ => decide
  | 4, _ => decide
  | 5, _ => decide
theorem dirRes_no {x y : Int} (h : noDir x y 6) : dirRes x y = (0, false) := by
  have h0 := h 0 (by omega)
  have h1 := h 1 (by omega)
  have h2 := h 2 (by omega)
  have h3 := h 3 (by omega)
  have h4 := h 4 (by omega)
  have h5 := h 5 (by omega)
  simp [dirQ, dirR] at h0 h1 h2 h3 h4 h5
  unfold dirRes
  rw [if_neg (by omega), if_neg (by omega), if_neg (by omega), if_neg (by omega), if_neg (by omega), if_neg (by omega)]
theorem noDir_succ {x y : Int} {k : Nat} (h : noDir x y k) (hk : ¬ (x = dirQ k ∧ y = dirR k)) : noDir x y (k + 1) := fun j hj => by
  rcases Nat.lt_succ_iff_lt_or_eq.1 hj with h' | rfl
  · exact h j h'
  · exact hk
end Go.Proofs.YtpdcmpojjchobaaDoor

/-
  The reference's step in three directions returns what is said, and changes nothing that was there.
-/
namespace Go.Proofs.YtpdcmpojjchobaaDoor
open Go.RowKit

set_option maxHeartbeats 4000000 in
theorem hStep_0 (q r : Int) (w : World) (h1 : -1000 ≤ q) (h2 : q ≤ 1000) (h3 : -1000 ≤ r) (h4 : r ≤ 1000) :
    Calls Tryd.prog 137 #[hx q r, .int .i64 0] w fun e w' => e = .returned (hx (q + 1) (r + 0)) ∧ Kp w w' := by
  go_enter Tryd.func137, Tryd.ntmps137
  go_wp2
  go_region
  all_goals
    go_wp2
    exact bodyPost_ret (v := hx (q + 1) (r + 0)) (by simp [results, Tryd.results137, go_sem]) rfl ⟨rfl, (((((Kp.refl _).alloc _).alloc _).alloc _).alloc _).drew⟩
set_option maxHeartbeats 4000000 in
theorem hStep_1 (q r : Int) (w : World) (h1 : -1000 ≤ q) (h2 : q ≤ 1000) (h3 : -1000 ≤ r) (h4 : r ≤ 1000) :
    Calls Tryd.prog 137 #[hx q r, .int .i64 1] w fun e w' => e = .returned (hx (q + 1) (r + -1)) ∧ Kp w w' := by
  go_enter Tryd.func137, Tryd.ntmps137
  go_wp2
  go_region
  all_goals
    go_wp2
    exact bodyPost_ret (v := hx (q + 1) (r + -1)) (by simp [results, Tryd.results137, go_sem]) rfl ⟨rfl, (((((Kp.refl _).alloc _).alloc _).alloc _).alloc _).drew⟩
set_option maxHeartbeats 4000000 in
theorem hStep_2 (q r : Int) (w : World) (h1 : -1000 ≤ q) (h2 : q ≤ 1000) (h3 : -1000 ≤ r) (h4 : r ≤ 1000) :
    Calls Tryd.prog 137 #[hx q r, .int .i64 2] w fun e w' => e = .returned (hx (q + 0) (r + -1)) ∧ Kp w w' := by
  go_enter Tryd.func137, Tryd.ntmps137
  go_wp2
  go_region
  all_goals
    go_wp2
    exact bodyPost_ret (v := hx (q + 0) (r + -1)) (by simp [results, Tryd.results137, go_sem]) rfl ⟨rfl, (((((Kp.refl _).alloc _).alloc _).alloc _).alloc _).drew⟩
end Go.Proofs.YtpdcmpojjchobaaDoor

/-
  The reference's step in the other three directions returns what is said, and changes nothing that was there.
-/
namespace Go.Proofs.YtpdcmpojjchobaaDoor
open Go.RowKit

set_option maxHeartbeats 4000000 in
theorem hStep_3 (q r : Int) (w : World) (h1 : -1000 ≤ q) (h2 : q ≤ 1000) (h3 : -1000 ≤ r) (h4 : r ≤ 1000) :
    Calls Tryd.prog 137 #[hx q r, .int .i64 3] w fun e w' => e = .returned (hx (q + -1) (r + 0)) ∧ Kp w w' := by
  go_enter Tryd.func137, Tryd.ntmps137
  go_wp2
  go_region
  all_goals
    go_wp2
    exact bodyPost_ret (v := hx (q + -1) (r + 0)) (by simp [results, Tryd.results137, go_sem]) rfl ⟨rfl, (((((Kp.refl _).alloc _).alloc _).alloc _).alloc _).drew⟩
set_option maxHeartbeats 4000000 in
theorem hStep_4 (q r : Int) (w : World) (h1 : -1000 ≤ q) (h2 : q ≤ 1000) (h3 : -1000 ≤ r) (h4 : r ≤ 1000) :
    Calls Tryd.prog 137 #[hx q r, .int .i64 4] w fun e w' => e = .returned (hx (q + -1) (r + 1)) ∧ Kp w w' := by
  go_enter Tryd.func137, Tryd.ntmps137
  go_wp2
  go_region
  all_goals
    go_wp2
    exact bodyPost_ret (v := hx (q + -1) (r + 1)) (by simp [results, Tryd.results137, go_sem]) rfl ⟨rfl, (((((Kp.refl _).alloc _).alloc _).alloc _).alloc _).drew⟩
set_option maxHeartbeats 4000000 in
theorem hStep_5 (q r : Int) (w : World) (h1 : -1000 ≤ q) (h2 : q ≤ 1000) (h3 : -1000 ≤ r) (h4 : r ≤ 1000) :
    Calls Tryd.prog 137 #[hx q r, .int .i64 5] w fun e w' => e = .returned (hx (q + 0) (r + 1)) ∧ Kp w w' := by
  go_enter Tryd.func137, Tryd.ntmps137
  go_wp2
  go_region
  all_goals
    go_wp2
    exact bodyPost_ret (v := hx (q + 0) (r + 1)) (by simp [results, Tryd.results137, go_sem]) rfl ⟨rfl, (((((Kp.refl _).alloc _).alloc _).alloc _).alloc _).drew⟩
end Go.Proofs.YtpdcmpojjchobaaDoor

/-
  The reference's step in a direction returns what a plain function on integers says, and changes nothing that was there.
-/
namespace Go.Proofs.YtpdcmpojjchobaaDoor
open Go.RowKit

theorem hStep_any (q r d : Int) (w : World) (hd0 : 0 ≤ d) (hd5 : d ≤ 5) (h1 : -1000 ≤ q) (h2 : q ≤ 1000) (h3 : -1000 ≤ r) (h4 : r ≤ 1000) :
    Calls Tryd.prog 137 #[hx q r, .int .i64 d] w fun e w' => e = .returned (hx (q + dirQ d) (r + dirR d)) ∧ Kp w w' := by
  rcases six hd0 hd5 with rfl | rfl | rfl | rfl | rfl | rfl
  · exact hStep_0 q r w h1 h2 h3 h4
  · exact hStep_1 q r w h1 h2 h3 h4
  · exact hStep_2 q r w h1 h2 h3 h4
  · exact hStep_3 q r w h1 h2 h3 h4
  · exact hStep_4 q r w h1 h2 h3 h4
  · exact hStep_5 q r w h1 h2 h3 h4

end Go.Proofs.YtpdcmpojjchobaaDoor

/-
  The reference's tests of numbers within a range, one and all of a list.
-/
namespace Go.Proofs.YtpdcmpojjchobaaDoor
open Go.RowKit

theorem drop_step {α : Type} {l : List α} {k : Nat} {x : α} (h : l[k]? = some x) : l.drop k = x :: l.drop (k + 1) := by
  obtain ⟨hk, rfl⟩ := List.getElem?_eq_some_iff.1 h
  exact List.drop_eq_getElem_cons hk
theorem all_no {f : Int → Bool} {x : Int} {l : List Int} (h : f x = false) : (x :: l).all f = false := by simp [h]
theorem all_go {f : Int → Bool} {x : Int} {l : List Int} (h : f x = true) : (x :: l).all f = l.all f := by simp [h]
theorem l1All_any (v : Value) (l : List Int) (lo hi : Int) (w : World) (h : RdI w v l) (hl : l.length ≤ 1048576) :
    Calls Tryd.prog 68 #[v, .int .i64 lo, .int .i64 hi] w fun e w' => e = .returned (.bool (l.all fun n => decide (lo ≤ n) && decide (n ≤ hi))) ∧ w = w' := by
  obtain ⟨A, cp, rfl, h⟩ := h
  have HA := Lib.hid h
  obtain ⟨f, hf⟩ : ∃ f : Int → Bool, f = fun n => decide (lo ≤ n) && decide (n ≤ hi) := ⟨_, rfl⟩
  have CI : ∀ n w, Calls Tryd.prog 30 #[.int .i64 n, .int .i64 lo, .int .i64 hi] w fun e w' => e = .returned (.bool (f n)) ∧ w = w' := fun n w => by rw [hf]; exact l1In_gen n lo hi w
  have HC := Lib.hid CI
  rw [← hf]
  obtain ⟨R, hR⟩ : ∃ R, R = l.all f := ⟨_, rfl⟩
  rw [← hR]
  have HR := Lib.hid hR
  clear h hR CI hf
  generalize hn : l.length = n at *
  have HN := Lib.hid hn
  clear hn
  go_enter Tryd.func68, Tryd.ntmps68
  go_wp2_with fail
  go_loop [8, 11] (fun _ i => ∃ k : Nat, k ≤ n ∧ i = .int .i64 k ∧ Hid ((l.drop k).all f = R)) (fun _ i => n - (intOf i).toNat)
  case atStart => exact ⟨0, by omega, rfl, Lib.hid HR.out.symm⟩
  case round =>
    obtain ⟨k, hk, rfl, hE⟩ := hrel
    by_cases hlt : k < n
    · obtain ⟨g, off, rfl, hc⟩ := HA.out (by omega)
      obtain ⟨x, hx⟩ : ∃ x, l[k]? = some x := ⟨l[k]'(by have := HN.out; omega), List.getElem?_eq_getElem _⟩
      have a0 := hc k x hx
      have HX := Lib.hid (drop_step hx)
      clear hc hx
      have hlt' : (k : Int) < n := by omega
      cases hok : f x
      · go_wp2_with fail
        refine (HC.out _ _).mono ?_
        rintro e1 wy ⟨rfl, rfl⟩
        go_wp2_with fail
        go_ret
        have e : R = false := by rw [← hE.out, HX.out]; exact all_no hok
        exact ⟨ret_bool e.symm, rfl⟩
      · have HE2 : Hid ((l.drop (k + 1)).all f = R) := Lib.hid (by rw [← hE.out, HX.out]; exact (all_go hok).symm)
        go_wp2_with fail
        refine (HC.out _ _).mono ?_
        rintro e1 wy ⟨rfl, rfl⟩
        go_wp2_with fail
        go_round
        case rel => exact ⟨k + 1, by omega, by go_num, HE2⟩
        case measure => simp [intOf]; omega
    · obtain rfl : k = n := by omega
      go_wp2_with fail
      go_ret
      refine ⟨ret_bool ?_, rfl⟩
      rw [← hE.out, List.drop_of_length_le (by rw [HN.out]; omega)]
      rfl
theorem l1In_sp (n lo hi : Int) (w : World) :
    Calls Tryd.prog 30 #[.int .i64 n, .int .i64 lo, .int .i64 hi] w fun e w' => e = .returned (.bool (spB lo hi n)) ∧ w = w' := l1In_gen n lo hi w

theorem l1All_sp (v : Value) (l : List Int) (lo hi : Int) (w : World) (h : RdI w v l) (hl : l.length ≤ 1048576) :
    Calls Tryd.prog 68 #[v, .int .i64 lo, .int .i64 hi] w fun e w' => e = .returned (.bool (l.all (spB lo hi))) ∧ w = w' := l1All_any v l lo hi w h hl
theorem upto_more {f : Nat → Bool} {k : Nat} (h : f k = true) (hn : ∀ j, j < k → f j = true) : ∀ j, j < k + 1 → f j = true := fun j hj => by
  rcases Nat.lt_or_ge j k with h1 | h1
  · exact hn j h1
  · obtain rfl : j = k := by omega
    exact h

end Go.Proofs.YtpdcmpojjchobaaDoor

/-
  The reference's test of a name; slices of strings as lists: the place of a string, whether it is there, and whether all names are valid and differ. Nothing that was there is changed.
-/
namespace Go.Proofs.YtpdcmpojjchobaaDoor
open Go.RowKit

set_option maxHeartbeats 400000 in
theorem rName_any (s : ByteArray) (w : World) (hs : s.size ≤ 1048576) :
    Calls Tryd.prog 66 #[.string s] w fun e w' => e = .returned (.bool (nameOk s)) ∧ w = w' := by
  obtain ⟨R, hR⟩ : ∃ R, R = lowFrom s.data.toList := ⟨_, rfl⟩
  have e : nameOk s = (spB 1 8 s.size && R) := by rw [hR]; rfl
  rw [e]
  have HR := Lib.hid hR
  clear e hR
  go_enter Tryd.func66, Tryd.ntmps66
  go_wp2_with fail
  go_loop [3] (fun i => ∃ k : Nat, k ≤ s.size ∧ i = .int .i64 k ∧ Hid (lowFrom (s.data.toList.drop k) = R)) (fun i => s.size - (intOf i).toNat)
  case atStart => exact ⟨0, by omega, rfl, Lib.hid HR.out.symm⟩
  case round =>
    obtain ⟨k, hk, rfl, hE⟩ := hrel
    by_cases hlt : k < s.size
    · have HX := Lib.hid (low_step hlt)
      cases hok : lowB s[k]
      · have HE2 : Hid (R = false) := Lib.hid (by rw [← hE.out, HX.out]; exact low_no hok)
        have hd : s[k].toNat < 97 ∨ 122 < s[k].toNat := by simp [lowB] at hok; omega
        clear hok
        rcases hd with hd | hd
        · go_wp2_with fail
          go_ret
          exact ⟨ret_bool (by rw [HE2.out, Bool.and_false]), rfl⟩
        · have hd2 : ¬ s[k].toNat < 97 := by omega
          go_wp2_with fail
          go_ret
          exact ⟨ret_bool (by rw [HE2.out, Bool.and_false]), rfl⟩
      · have HE2 : Hid (lowFrom (s.data.toList.drop (k + 1)) = R) := Lib.hid (by rw [← hE.out, HX.out]; exact (low_go hok).symm)
        have hd : ¬ s[k].toNat < 97 ∧ ¬ 122 < s[k].toNat := by simp [lowB] at hok; omega
        obtain ⟨hd1, hd2⟩ := hd
        clear hok
        go_wp2_with fail
        go_round
        case rel => exact ⟨k + 1, by omega, by go_num, HE2⟩
        case measure => simp [intOf]; omega
    · obtain rfl : k = s.size := by omega
      have HR1 : Hid (R = true) := Lib.hid (by
        rw [← hE.out, List.drop_of_length_le (by simp)]
        rfl)
      go_wp2_with fail
      refine (l1In_sp _ _ _ _).mono ?_
      rintro e w1 ⟨rfl, rfl⟩
      go_wp2_with fail
      go_ret
      exact ⟨ret_bool (by rw [HR1.out, Bool.and_true]), rfl⟩

/-- The slice v reads as the list l of strings. -/
def RdS (w : World) (v : Value) (l : List ByteArray) : Prop :=
  ∃ A c, v = .slice A l.length c ∧ (0 < l.length → ∃ g off, A = some ⟨g, off, none⟩ ∧ ∀ i x, l[i]? = some x → w.cell? ⟨g, off + i, none⟩ = some (.string x))
theorem RdS.keep {w w' : World} {v : Value} {l : List ByteArray} (h : RdS w v l) (hk : Kp w w') : RdS w' v l := by
  obtain ⟨A, c, rfl, h⟩ := h
  refine ⟨A, c, rfl, fun h0 => ?_⟩
  obtain ⟨g, off, rfl, hc⟩ := h h0
  exact ⟨g, off, rfl, fun i x hx => hk.cell (hc i x hx)⟩

theorem getD_of {l : List ByteArray} {k : Nat} {x : ByteArray} (h : l[k]? = some x) : l.getD k ByteArray.empty = x := by simp [List.getD, h]
theorem idxS_hit {l : List ByteArray} {k : Nat} {x : ByteArray} (h : l[k]? = some x) (hn : ∀ j, j < k → l.getD j ByteArray.empty ≠ x) : idxS l x = k := by
  have := idxS_first (l := l) (k := k) (lt_of_at h) (fun j hj => by rw [getD_of h]; exact hn j hj)
  rwa [getD_of h] at this
theorem idxS_miss {l : List ByteArray} {x : ByteArray} (hn : ∀ j, j < l.length → l.getD j ByteArray.empty ≠ x) : idxS l x = -1 := by
  have := Lib.idxOfS_miss l l.length x hn
  rwa [List.take_length] at this
theorem not_more {l : List ByteArray} {k : Nat} {x m : ByteArray} (h : l[k]? = some x) (hne : x ≠ m) (hn : ∀ j, j < k → l.getD j ByteArray.empty ≠ m) : ∀ j, j < k + 1 → l.getD j ByteArray.empty ≠ m := fun j hj => by
  rcases Nat.lt_or_ge j k with h1 | h1
  · exact hn j h1
  · obtain rfl : j = k := by omega
    rw [getD_of h]
    exact hne

theorem indexS_any (v : Value) (l : List ByteArray) (m : ByteArray) (w : World) (h : RdS w v l) (hl : l.length ≤ 1048576) :
    Calls Tryd.prog 130 #[v, .string m] w fun e w' => e = .returned (.int .i64 (idxS l m)) ∧ w = w' := by
  obtain ⟨A, cp, rfl, h⟩ := h
  have HA := Lib.hid h
  obtain ⟨R, hR⟩ : ∃ R, R = idxS l m := ⟨_, rfl⟩
  rw [← hR]
  have HR := Lib.hid hR
  clear h hR
  generalize hn : l.length = n at *
  have HN := Lib.hid hn
  clear hn
  go_enter Tryd.func130, Tryd.ntmps130
  go_wp2_with fail
  go_loop [5, 8] (fun _ i => ∃ k : Nat, k ≤ n ∧ i = .int .i64 k ∧ Hid (∀ j, j < k → l.getD j ByteArray.empty ≠ m)) (fun _ i => n - (intOf i).toNat)
  case atStart => exact ⟨0, by omega, rfl, Lib.hid fun j hj => absurd hj (by omega)⟩
  case round =>
    obtain ⟨k, hk, rfl, hE⟩ := hrel
    by_cases hlt : k < n
    · obtain ⟨g, off, rfl, hc⟩ := HA.out (by omega)
      obtain ⟨x, hx⟩ : ∃ x, l[k]? = some x := ⟨l[k]'(by have := HN.out; omega), List.getElem?_eq_getElem _⟩
      have a0 := hc k x hx
      have HX := Lib.hid hx
      clear hc hx
      have hlt' : (k : Int) < n := by omega
      by_cases hok : x = m
      · have HE2 : Hid (R = (k : Int)) := Lib.hid (by rw [HR.out]; exact idxS_hit (by rw [← hok]; exact HX.out) hE.out)
        have he : (m.toList == x.toList) = true := (Lib.bytes_beq_iff m x).2 hok.symm
        clear hok
        go_wp2_with fail
        go_ret
        exact ⟨ret_int HE2.out.symm, rfl⟩
      · have HE2 := Lib.hid (not_more HX.out hok hE.out)
        have he : (m.toList == x.toList) = false := (Lib.bytes_beq_false_iff m x).2 (fun e => hok e.symm)
        clear hok
        go_wp2_with fail
        go_round
        case rel => exact ⟨k + 1, by omega, by go_num, HE2⟩
        case measure => simp [intOf]; omega
    · obtain rfl : k = n := by omega
      go_wp2_with fail
      go_ret
      refine ⟨ret_int ?_, rfl⟩
      rw [HR.out, idxS_miss (fun j hj => hE.out j (by have := HN.out; omega))]

theorem containsS_any (v : Value) (l : List ByteArray) (m : ByteArray) (w : World) (h : RdS w v l) (hl : l.length ≤ 1048576) :
    Calls Tryd.prog 112 #[v, .string m] w fun e w' => e = .returned (.bool (hasS l m)) ∧ w = w' := by
  obtain ⟨R, hR⟩ : ∃ R, R = idxS l m := ⟨_, rfl⟩
  have e : hasS l m = decide (0 ≤ R) := by rw [hR]; rfl
  have C := indexS_any v l m w h hl
  rw [← hR] at C
  rw [e]
  have HC := Lib.hid C
  clear hR C h e
  go_enter Tryd.func112, Tryd.ntmps112
  go_wp2_with fail
  refine HC.out.mono ?_
  rintro e w1 ⟨rfl, rfl⟩
  go_wp2_with fail
  go_ret
  exact ⟨rfl, rfl⟩

theorem nameAt_of {l : List ByteArray} {k : Nat} {x : ByteArray} (h : l[k]? = some x) : nameAt l k = (nameOk x && !hasS (l.take k) x) := by unfold nameAt; rw [getD_of h]
theorem names_more {l : List ByteArray} {k : Nat} (h : nameAt l k = true) (hn : ∀ j, j < k → nameAt l j = true) : ∀ j, j < k + 1 → nameAt l j = true := fun j hj => by
  rcases Nat.lt_or_ge j k with h1 | h1
  · exact hn j h1
  · obtain rfl : j = k := by omega
    exact h
theorem rdS_take {w : World} {l : List ByteArray} {g off k c : Nat} (hk : k ≤ l.length) (hc : ∀ i x, l[i]? = some x → w.cell? ⟨g, off + i, none⟩ = some (.string x)) : RdS w (.slice (some ⟨g, off, none⟩) k c) (l.take k) := by
  have e : (l.take k).length = k := by rw [List.length_take]; omega
  refine ⟨some ⟨g, off, none⟩, c, by rw [e], fun _ => ⟨g, off, rfl, fun i x hx => ?_⟩⟩
  rw [List.getElem?_take] at hx
  split at hx
  · exact hc i x hx
  · cases hx

set_option maxHeartbeats 1000000 in
theorem areNames_any (A : Option Addr) (n c : Nat) (l : List ByteArray) (w : World) (hn : l.length = n) (h : RdS w (.slice A n c) l) (hl : n ≤ 1048576) (hnc : n ≤ c) (hcc : c ≤ 9223372036854775807) :
    Calls Tryd.prog 77 #[.slice A n c] w fun e w' => e = .returned (.bool (namesOk l)) ∧ w = w' := by
  have HA : Hid (0 < n → ∃ g off, A = some ⟨g, off, none⟩ ∧ ∀ i x, l[i]? = some x → w.cell? ⟨g, off + i, none⟩ = some (.string x)) := Lib.hid (by
    obtain ⟨A', c', e, h⟩ := h
    simp only [Value.slice.injEq] at e
    obtain ⟨rfl, _, _⟩ := e
    rw [hn] at h
    exact h)
  obtain ⟨R, hR⟩ : ∃ R, R = namesOk l := ⟨_, rfl⟩
  rw [← hR]
  have HR := Lib.hid hR
  have HN := Lib.hid hn
  clear h hR hn
  go_enter Tryd.func77, Tryd.ntmps77
  go_wp2_with fail
  go_loop [3, 4, 7] (fun _ _ i => ∃ k : Nat, k ≤ n ∧ i = .int .i64 k ∧ Hid (∀ j, j < k → nameAt l j = true)) (fun _ _ i => n - (intOf i).toNat)
  case atStart => exact ⟨0, by omega, rfl, Lib.hid fun j hj => absurd hj (by omega)⟩
  case round =>
    obtain ⟨k, hk, rfl, hE⟩ := hrel
    by_cases hlt : k < n
    · obtain ⟨g, off, rfl, hc⟩ := HA.out (by omega)
      obtain ⟨x, hx⟩ : ∃ x, l[k]? = some x := ⟨l[k]'(by have := HN.out; omega), List.getElem?_eq_getElem _⟩
      have a0 := hc k x hx
      have HX := Lib.hid hx
      have HT := Lib.hid (rdS_take (w := w) (l := l) (g := g) (off := off) (k := k) (c := c) (by have := HN.out; omega) hc)
      have hlT : (l.take k).length ≤ 1048576 := by rw [List.length_take]; omega
      clear hc hx
      have hlt' : (k : Int) < n := by omega
      cases h1 : nameOk x
      · have HE2 : Hid (R = false) := Lib.hid (by rw [HR.out]; unfold namesOk; exact allN_no (k := k) (by have := HN.out; omega) (by rw [nameAt_of HX.out, h1]; rfl))
        go_wp2_with fail
        refine (isName_any _ _).mono ?_
        rintro e w1 ⟨rfl, rfl⟩
        go_wp2_with fail
        go_ret
        exact ⟨ret_bool HE2.out.symm, rfl⟩
      · cases h2 : hasS (l.take k) x
        · have HE2 := Lib.hid (names_more (by rw [nameAt_of HX.out, h1, h2]; rfl) hE.out)
          go_wp2_with fail
          refine (isName_any _ _).mono ?_
          rintro e w1 ⟨rfl, rfl⟩
          go_wp2_with fail
          refine (containsS_any _ (l.take k) _ _ HT.out hlT).mono ?_
          rintro e w1 ⟨rfl, rfl⟩
          go_wp2_with fail
          go_round
          case rel => exact ⟨k + 1, by omega, by go_num, HE2⟩
          case measure => simp [intOf]; omega
        · have HE2 : Hid (R = false) := Lib.hid (by rw [HR.out]; unfold namesOk; exact allN_no (k := k) (by have := HN.out; omega) (by rw [nameAt_of HX.out, h1, h2]; rfl))
          go_wp2_with fail
          refine (isName_any _ _).mono ?_
          rintro e w1 ⟨rfl, rfl⟩
          go_wp2_with fail
          refine (containsS_any _ (l.take k) _ _ HT.out hlT).mono ?_
          rintro e w1 ⟨rfl, rfl⟩
          go_wp2_with fail
          go_ret
          exact ⟨ret_bool HE2.out.symm, rfl⟩
    · obtain rfl : k = n := by omega
      go_wp2_with fail
      go_ret
      refine ⟨ret_bool ?_, rfl⟩
      rw [HR.out]
      unfold namesOk
      exact (allN_mk fun j hj => hE.out j (by have := HN.out; omega)).symm

end Go.Proofs.YtpdcmpojjchobaaDoor

/-
  A range of permitted numbers: whether a number lies in it, and a variable that holds one.
-/
namespace Go.Proofs.YtpdcmpojjchobaaDoor
open Go.RowKit

theorem has_any (lo hi n : Int) (w : World) :
    Calls Tryd.prog 73 #[.agg #[.int .i64 lo, .int .i64 hi], .int .i64 n] w fun e w' => e = .returned (.bool (spB lo hi n)) ∧ Kp w w' := by
  by_cases h1 : lo ≤ n
  · by_cases h2 : n ≤ hi
    · go_enter Tryd.func73, Tryd.ntmps73
      go_wp2
      go_ret
      exact ⟨ret_bool (by simp [spB, h1, h2]), (Kp.refl _).alloc _⟩
    · have hd : decide (n ≤ hi) = false := by simpa using h2
      go_enter Tryd.func73, Tryd.ntmps73
      go_wp2
      go_ret
      exact ⟨ret_bool (by simp [spB]; omega), (Kp.refl _).alloc _⟩
  · have hd : decide (lo ≤ n) = false := by simpa using h1
    go_enter Tryd.func73, Tryd.ntmps73
    go_wp2
    go_ret
    exact ⟨ret_bool (by simp [spB]; omega), (Kp.refl _).alloc _⟩

def SpanAt (w : World) (g : Nat) (lo hi : Int) : Prop := w.cell? ⟨g, 0, none⟩ = some (.int .i64 lo) ∧ w.cell? ⟨g, 1, none⟩ = some (.int .i64 hi)

end Go.Proofs.YtpdcmpojjchobaaDoor
