/-
  The small functions on hexes (valid coordinates, valid hexes, copying and comparing hexes) return what plain functions on integers say, and change nothing that was there.
-/
import Derived.Test.YtgeophllbmjjfaaDoorProg
import Derived.WalkKit
import Derived.WalkLawsBesides
import Derived.Below
import Derived.KernelRfl
import Derived.Lib.Hide
namespace Go.Proofs.YtgeophllbmjjfaaDoor
open Go.RowKit

/-- Everything that lay in w lies in w' as it was. -/
def Kp (w w' : World) : Prop := Below w.heap.size w w'
theorem Kp.refl (w : World) : Kp w w := Below.refl _ _
theorem Kp.trans {a b c : World} (h : Kp a b) (k : Kp b c) : Kp a c := Below.trans h (Below.mono k (Below.size h))
theorem Kp.alloc {a w : World} (h : Kp a w) (o : Obj) : Kp a (w.alloc o) := Below.alloc h (Below.size h) o
theorem Kp.drew {a w : World} (h : Kp a w) : Kp a w.drew := Below.drew h
theorem Kp.drewN {a w : World} (h : Kp a w) (n : Nat) : Kp a (w.drewN n) := ⟨h.os, h.tape, h.output, h.size, h.block⟩
theorem Kp.setCell {a w : World} (h : Kp a w) {p : Addr} (hp : a.heap.size ≤ p.block) (u : Value) : Kp a (w.setCell p u) := Below.setCell h hp u
theorem Kp.cells {W w1 : World} (hb : Kp W w1) : (∀ b o, b < W.heap.size → w1.cell? ⟨b, o, none⟩ = W.cell? ⟨b, o, none⟩) ∧ (∀ b o, b < W.heap.size → w1.frozen? ⟨b, o, none⟩ = W.frozen? ⟨b, o, none⟩) :=
  ⟨fun b o h => Below.cell (p := ⟨b, o, none⟩) hb h, fun b o h => Below.frozen (p := ⟨b, o, none⟩) hb h⟩

theorem Kp.rules {W w1 : World} (hb : Kp W w1) : (∀ b o, b < W.heap.size → w1.cell? ⟨b, o, none⟩ = W.cell? ⟨b, o, none⟩) ∧ (∀ b o, b < W.heap.size → w1.frozen? ⟨b, o, none⟩ = W.frozen? ⟨b, o, none⟩) ∧
    (∀ b, b < W.heap.size → b < w1.heap.size) ∧ (∀ b, b < W.heap.size → b ≠ w1.heap.size) ∧ (∀ b, b < W.heap.size → w1.heap.size ≠ b) :=
  have hz : W.heap.size ≤ w1.heap.size := hb.size
  ⟨hb.cells.1, hb.cells.2, fun _ _ => by omega, fun _ _ => by omega, fun _ _ => by omega⟩
theorem Kp.cell {W w1 : World} (hk : Kp W w1) {p : Addr} {v : Value} (h : W.cell? p = some v) : w1.cell? p = some v := by
  have hlt : p.block < W.heap.size := by
    rcases Nat.lt_or_ge p.block W.heap.size with hlt | hge
    · exact hlt
    · simp [World.cell?, Array.getElem?_eq_none hge] at h
  rw [Below.cell hk hlt, h]
theorem Kp.two {W w1 : World} (hk : Kp W w1) {p0 p1 : Addr} {v0 v1 : Value} (h : W.cell? p0 = some v0 ∧ W.cell? p1 = some v1) : w1.cell? p0 = some v0 ∧ w1.cell? p1 = some v1 :=
  ⟨hk.cell h.1, hk.cell h.2⟩
theorem Kp.four {W w1 : World} (hk : Kp W w1) {p0 p1 p2 p3 : Addr} {v0 v1 v2 v3 : Value} (h : W.cell? p0 = some v0 ∧ W.cell? p1 = some v1 ∧ W.cell? p2 = some v2 ∧ W.cell? p3 = some v3) :
    w1.cell? p0 = some v0 ∧ w1.cell? p1 = some v1 ∧ w1.cell? p2 = some v2 ∧ w1.cell? p3 = some v3 := ⟨hk.cell h.1, hk.cell h.2.1, hk.cell h.2.2.1, hk.cell h.2.2.2⟩

abbrev hx (q r : Int) : Value := .agg #[.int .i64 q, .int .i64 r]
def okC (n : Int) : Bool := decide (-40 ≤ n) && decide (n ≤ 40)
def okH (q r : Int) : Bool := okC q && okC r

theorem okC_true {n : Int} (h : okC n = true) : -40 ≤ n ∧ n ≤ 40 := by simpa [okC] using h
theorem okC_mk {n : Int} (h : -40 ≤ n) (h' : n ≤ 40) : okC n = true := by simp [okC, h, h']
theorem okC_lo {n : Int} (h : ¬ -40 ≤ n) : okC n = false := by
  have h' : decide (-40 ≤ n) = false := by simpa using h
  simp only [okC, h', Bool.false_and]
theorem okC_hi {n : Int} (h : ¬ n ≤ 40) : okC n = false := by
  have h' : decide (n ≤ 40) = false := by simpa using h
  simp only [okC, h', Bool.and_false]
theorem okH_true {q r : Int} (h : okH q r = true) : -40 ≤ q ∧ q ≤ 40 ∧ -40 ≤ r ∧ r ≤ 40 := by
  simp only [okH, Bool.and_eq_true] at h
  exact ⟨(okC_true h.1).1, (okC_true h.1).2, (okC_true h.2).1, (okC_true h.2).2⟩
theorem okH_mk {q r : Int} (a : -40 ≤ q) (b : q ≤ 40) (c : -40 ≤ r) (d : r ≤ 40) : okH q r = true := by simp [okH, okC, a, b, c, d]

theorem ret_bool {a b : Bool} (h : a = b) : Ending.returned (.bool a) = .returned (.bool b) := by rw [h]
theorem ret_int {a b : Int} (h : a = b) : Ending.returned (.int .i64 a) = .returned (.int .i64 b) := by rw [h]

theorem l1In_any (n : Int) (w : World) :
    Calls Tryd.prog 34 #[.int .i64 n, .int .i64 (-40), .int .i64 40] w fun e w' => e = .returned (.bool (okC n)) ∧ w = w' := by
  by_cases h1 : -40 ≤ n
  · by_cases h2 : n ≤ 40
    · go_enter Tryd.func34, Tryd.ntmps34
      go_wp2
      go_ret
      exact ⟨ret_bool (okC_mk h1 h2).symm, rfl⟩
    · go_enter Tryd.func34, Tryd.ntmps34
      go_wp2
      go_ret
      exact ⟨ret_bool (okC_hi (by omega)).symm, rfl⟩
  · go_enter Tryd.func34, Tryd.ntmps34
    go_wp2
    go_ret
    exact ⟨ret_bool (okC_lo (by omega)).symm, rfl⟩


end Go.Proofs.YtgeophllbmjjfaaDoor
