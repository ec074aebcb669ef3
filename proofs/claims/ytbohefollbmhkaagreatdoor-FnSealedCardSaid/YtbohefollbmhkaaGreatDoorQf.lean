/-
  Texts of this seat in one module: Mk, SlO, SlM, ApL.
-/
import Derived.Maps.AppendAt
import Derived.Deep.Upon
import Derived.Deep.Cut
import Derived.Test.YtbohefollbmhkaaGreatDoorQa
import Derived.Test.YtbohefollbmhkaaGreatDoorQb
import Derived.Test.YtbohefollbmhkaaGreatDoorQd
import Derived.Test.YtbohefollbmhkaaGreatDoorQe

/-
  Worlds that differ in some blocks alone: below a number, and from another one on, all is as it was.
-/
namespace Go.Proofs.YtbohefollbmhkaaGreatDoor
open Go.RowKit

/-- Below lo, and from hi on, all that lay there is as it was. -/
def Mk (lo hi : Nat) (w w' : World) : Prop := Below lo w w' ∧ ∀ b, hi ≤ b → b < w.heap.size → w'.heap[b]? = w.heap[b]?
theorem Mk.refl (lo hi : Nat) (w : World) : Mk lo hi w w := ⟨Below.refl _ _, fun _ _ _ => rfl⟩
theorem Mk.trans {lo hi : Nat} {a b c : World} (h : Mk lo hi a b) (k : Mk lo hi b c) : Mk lo hi a c :=
  ⟨Below.trans h.1 k.1, fun n hn hs => (k.2 n hn (Nat.lt_of_lt_of_le hs h.1.size)).trans (h.2 n hn hs)⟩
theorem Mk.of_kp {lo hi : Nat} {w w' : World} (k : Kp w w') (h : lo ≤ w.heap.size) : Mk lo hi w w' := ⟨Below.mono k h, fun b _ hb => k.block b hb⟩
theorem Mk.set {lo hi : Nat} {a w : World} (h : Mk lo hi a w) {b j : Nat} (h1 : lo ≤ b) (h2 : b < hi) (u : Value) : Mk lo hi a (w.setCell ⟨b, j, none⟩ u) :=
  ⟨Below.setCell h.1 h1 u, fun n hn hs => (Below.heap_setCell w ⟨b, j, none⟩ u n (by simp only; omega)).trans (h.2 n hn hs)⟩
theorem Mk.grown {lo hi : Nat} {a w w' : World} {row : Option Nat} (h : Mk lo hi a w) (g : w.grownBy w' row) (hs : lo ≤ w.heap.size) (hr : ∀ k, row = some k → lo ≤ k ∧ k < hi) : Mk lo hi a w' :=
  ⟨Below.grown h.1 g hs (fun k e => (hr k e).1), fun n hn hz => ((let ⟨_, _, _, _, gb⟩ := g; gb) n (Nat.lt_of_lt_of_le hz h.1.size) (fun e => by have := (hr n e.symm).2; omega)).trans (h.2 n hn hz)⟩
theorem Mk.kp {lo hi : Nat} {w w' W0 : World} (h : Mk lo hi w w') (k : Kp W0 w) (hb : W0.heap.size ≤ lo) : Kp W0 w' := Below.trans k (Below.mono h.1 hb)
theorem Mk.own {lo hi base sz n : Nat} {w w' : World} {e : TypeId} {v : Value} {xs : List Value} (h : Mk lo hi w w') (o : w.ownsRow base e sz v n xs) (hb : ∀ g, v.ownBlock = some g → hi ≤ g) : w'.ownsRow base e sz v n xs := by
  obtain ⟨hl, hv⟩ := o
  refine ⟨hl, ?_⟩
  rcases hv with h0 | ⟨g, cap, cur, rfl, h1, h2, h3⟩
  · exact .inl h0
  · have hg : g < w.heap.size := (Array.getElem?_eq_some_iff.1 h2).1
    exact .inr ⟨g, cap, cur, rfl, h1, by rw [h.2 g (hb g rfl) hg]; exact h2, h3⟩

end Go.Proofs.YtbohefollbmhkaaGreatDoor

/-
  Slices of seals as lists of records: the laws' size, copy, comparison, marking and look; arguments of that type.
-/
namespace Go.Proofs.YtbohefollbmhkaaGreatDoor
open Go.ChangeShapes Go.WideShapes Go.ChangeAt Go.RowKit Go.Joins Go.Deep

structure Sea where
  t : Int
  s : Int
  x : Int
abbrev slx (t : Int) (s : Int) (x : Int) : Value := .agg #[.int .i64 t, .int .i64 s, .int .i64 x]
def SeaAt (w : World) (g o : Nat) (x : Sea) : Prop := w.cell? ⟨g, o, none⟩ = some (.int .i64 x.t) ∧ w.cell? ⟨g, o + 1, none⟩ = some (.int .i64 x.s) ∧ w.cell? ⟨g, o + 2, none⟩ = some (.int .i64 x.x)
theorem SeaAt.keep {w w' : World} {g o : Nat} {x : Sea} (h : SeaAt w g o x) (k : Kp w w') : SeaAt w' g o x := ⟨k.cell h.1, k.cell h.2.1, k.cell h.2.2⟩
def SeaI (x : Sea) : Prop := isI64 x.t ∧ isI64 x.s ∧ isI64 x.x
/-- The slice v reads as the list l. -/
def RdSl (w : World) (v : Value) (l : List Sea) : Prop :=
  ∃ A c, v = .slice A l.length c ∧ (0 < l.length → ∃ g off, A = some ⟨g, off, none⟩ ∧ ∀ i x, l[i]? = some x → SeaAt w g (off + i * 3) x)
theorem RdSl.keep {w w' : World} {v : Value} {l : List Sea} (h : RdSl w v l) (hk : Kp w w') : RdSl w' v l := by
  obtain ⟨A, c, rfl, h⟩ := h
  refine ⟨A, c, rfl, fun h0 => ?_⟩
  obtain ⟨g, off, rfl, hc⟩ := h h0
  exact ⟨g, off, rfl, fun i x hx => (hc i x hx).keep hk⟩
def cellsSl : List Sea → List Value
  | [] => []
  | x :: l => .int .i64 x.t :: .int .i64 x.s :: .int .i64 x.x :: cellsSl l
theorem cellsSl_length : ∀ l, (cellsSl l).length = l.length * 3
  | [] => rfl
  | x :: l => by simp only [cellsSl, List.length_cons, cellsSl_length l]; omega
theorem cellsSl_append : ∀ l m, cellsSl (l ++ m) = cellsSl l ++ cellsSl m
  | [], _ => rfl
  | x :: l, m => by simp only [cellsSl, List.cons_append, cellsSl_append l m]
theorem cellsSl_at : ∀ (l : List Sea) (i : Nat) (x : Sea), l[i]? = some x → (cellsSl l)[i * 3]? = some (.int .i64 x.t) ∧ (cellsSl l)[i * 3 + 1]? = some (.int .i64 x.s) ∧ (cellsSl l)[i * 3 + 2]? = some (.int .i64 x.x)
  | [], _, _, h => by simp at h
  | y :: l, 0, x, h => by
    simp only [List.getElem?_cons_zero, Option.some.injEq] at h
    subst h
    exact ⟨rfl, rfl, rfl⟩
  | y :: l, i + 1, x, h => by
    have := cellsSl_at l i x (by simpa using h)
    have e1 : (i + 1) * 3 = i * 3 + 1 + 1 + 1 := by omega
    rw [e1]
    exact ⟨(by simpa [cellsSl] using this.1), (by simpa [cellsSl] using this.2.1), (by simpa [cellsSl] using this.2.2)⟩

/-- The slice v owns the list l, in a block from base on. -/
def OwnSl (w : World) (base : Nat) (v : Value) (l : List Sea) : Prop := w.ownsRow base 29 3 v l.length (cellsSl l)
theorem OwnSl.rd {w : World} {base : Nat} {v : Value} {l : List Sea} (h : OwnSl w base v l) : RdSl w v l := by
  rcases h.2 with ⟨rfl, hn⟩ | ⟨g, cap, cur, rfl, hb, hg, hc, hm, hs, ht⟩
  · exact ⟨none, 0, by rw [hn], fun h0 => by omega⟩
  · refine ⟨_, _, rfl, fun _ => ⟨g, 0, rfl, fun i x hx => ?_⟩⟩
    have hi : i < l.length := (List.getElem?_eq_some_iff.1 hx).1
    have e := cellsSl_at l i x hx
    rw [Nat.zero_add]
    exact ⟨(World.ownsRow.cellAt h (i * 3) (by omega)).trans e.1, (World.ownsRow.cellAt h (i * 3 + 1) (by omega)).trans e.2.1, (World.ownsRow.cellAt h (i * 3 + 2) (by omega)).trans e.2.2⟩
theorem OwnSl.base {w : World} {base b : Nat} {v : Value} {l : List Sea} (h : OwnSl w base v l) (hb : b ≤ base) : OwnSl w b v l := ownsRow_base h hb
theorem OwnSl.keep {w w' : World} {base : Nat} {v : Value} {l : List Sea} (h : OwnSl w base v l) (hk : Kp w w') : OwnSl w' base v l := ownsRow_keep h hk
theorem OwnSl.nil (w : World) (base : Nat) : OwnSl w base (.slice none 0 0) [] := World.ownsRow_nil w base _ 3
theorem infoSealed : (Tryz.prog.info? 29).map (fun i => (i.zero, i.size, i.bytes)) = some (some (slx 0 0 0), 3, 24) := by kernel_rfl
theorem OwnSl.slice {w : World} {base : Nat} {v : Value} {l : List Sea} (h : OwnSl w base v l) : ∃ A c, v = .slice A l.length c := by
  obtain ⟨A, c, rfl, _⟩ := h.rd
  exact ⟨A, c, rfl⟩
theorem OwnSl.far {w : World} {base : Nat} {v : Value} {l : List Sea} (h : OwnSl w base v l) {g j : Nat} (hne : v.ownBlock ≠ some g) (u : Value) : OwnSl (w.setCell ⟨g, j, none⟩ u) base v l :=
  World.ownsRow.kept h (grown_set w g j u) (.inr hne)
theorem OwnSl.not {w : World} {base : Nat} {v : Value} {l : List Sea} (h : OwnSl w base v l) {g : Nat} (hg : g < base) : v.ownBlock ≠ some g := fun e => by
  have := (World.ownsRow.lt h g e).1
  omega

theorem keep6u {w w1 : World} {p0 p1 p2 p3 p4 p5 : Addr} {v0 v1 v2 v3 v4 v5 : Value} (k : Kp w w1) (h : w.cell? p0 = some v0 ∧ w.cell? p1 = some v1 ∧ w.cell? p2 = some v2 ∧ w.cell? p3 = some v3 ∧ w.cell? p4 = some v4 ∧ w.cell? p5 = some v5) : w1.cell? p0 = some v0 ∧ w1.cell? p1 = some v1 ∧ w1.cell? p2 = some v2 ∧ w1.cell? p3 = some v3 ∧ w1.cell? p4 = some v4 ∧ w1.cell? p5 = some v5 :=
  ⟨k.cell h.1, k.cell h.2.1, k.cell h.2.2.1, k.cell h.2.2.2.1, k.cell h.2.2.2.2.1, k.cell h.2.2.2.2.2⟩

theorem mkSealedN (n : Nat) (hn : n ≤ 1048576) (w : World) :
    (Instr.makeSlice 37 (.int .i64 (n : Int)) (.int .i64 (n : Int))).run Tryz.prog w = .ok (.slice (some ⟨w.heap.size, 0, none⟩) n n) (w.alloc (.cells (madeCells (slx 0 0 0).cells (n * 3)) 29)) := by
  obtain ⟨i, hi, hz, hs, hb⟩ := info_parts infoSealed
  have hr := run_make (P := Tryz.prog) w 37 29 i (slx 0 0 0) Tryz.underlying37 hi hz .i64 .i64 (n : Int) (n : Int) (by omega) (Int.le_refl _) (by rw [hb]; omega) (by omega)
  rw [hs, Int.toNat_natCast] at hr
  exact hr

theorem marks3_step (k0 : Int) (xs : List Value) (t n : Nat) (hl : xs.length = n * 3) (ht : t < n) :
    (((marks k0 (t * 3) ++ xs.drop (t * 3)).set (t * 3) (.int .i64 (k0 + 3 * (t : Int)))).set (t * 3 + 1) (.int .i64 (k0 + 3 * (t : Int) + 1))).set (t * 3 + 2) (.int .i64 (k0 + 3 * (t : Int) + 1 + 1)) = marks k0 ((t + 1) * 3) ++ xs.drop ((t + 1) * 3) := by
  have e0 : k0 + 3 * (t : Int) = k0 + ((t * 3 : Nat) : Int) := by omega
  have e1 : k0 + 3 * (t : Int) + 1 = k0 + ((t * 3 + 1 : Nat) : Int) := by omega
  have e2 : k0 + 3 * (t : Int) + 1 + 1 = k0 + ((t * 3 + 2 : Nat) : Int) := by omega
  rw [e2, e1, e0]
  rw [marks1_step k0 xs (t * 3) (n * 3) (by omega) (by omega), marks1_step k0 xs (t * 3 + 1) (n * 3) (by omega) (by omega), marks1_step k0 xs (t * 3 + 2) (n * 3) (by omega) (by omega), show t * 3 + 2 + 1 = (t + 1) * 3 from by omega]

theorem openSealed_list {l : List Value} (hl : l.length = 3) {c0 : Value} {c1 : Value} {c2 : Value} (q0 : l[0]? = some c0) (q1 : l[1]? = some c1) (q2 : l[2]? = some c2) : l = [c0, c1, c2] := by
  match l, hl with
  | [x0, x1, x2], _ =>
    simp at q0 q1 q2
    subst q0 q1 q2
    rfl
end Go.Proofs.YtbohefollbmhkaaGreatDoor

/-
  Plain seals: valid ones, chains, the first index at which something holds.
-/
namespace Go.Proofs.YtbohefollbmhkaaGreatDoor
open Go.RowKit

def seaB (e : Sea) : Bool := spB 0 30 e.t && (spB 0 1 e.s && seedB e.x)
def roundB {α : Type} (p : α → Bool) (l : List α) : Bool := decide (l.length ≤ 4) && l.all p
theorem allB_no {α : Type} {p : α → Bool} {l : List α} {k : Nat} {x : α} (h : l[k]? = some x) (hp : p x = false) : l.all p = false := by
  rw [List.all_eq_false]
  exact ⟨x, List.mem_of_getElem? h, by simp [hp]⟩
theorem allB_yes {α : Type} {p : α → Bool} {l : List α} (h : ∀ j x, j < l.length → l[j]? = some x → p x = true) : l.all p = true := by
  rw [List.all_eq_true]
  intro x hx
  obtain ⟨j, hj, rfl⟩ := List.mem_iff_getElem.1 hx
  exact h j _ hj (List.getElem?_eq_getElem hj)
theorem roundB_len {α : Type} {p : α → Bool} {l : List α} (h : roundB p l = true) : l.length ≤ 4 := by
  simp only [roundB, Bool.and_eq_true, decide_eq_true_eq] at h
  exact h.1
theorem roundB_at {α : Type} {p : α → Bool} {l : List α} (h : roundB p l = true) {k : Nat} {x : α} (hx : l[k]? = some x) : p x = true := by
  simp only [roundB, Bool.and_eq_true, List.all_eq_true] at h
  exact h.2 x (List.mem_of_getElem? hx)
def lastN (l : List Sea) : Nat → Int
  | 0 => 0
  | k + 1 => match l[k]? with
    | some e => hashN (mixL [13, lastN l k, e.t, e.s, e.x])
    | none => 0
theorem lastN_step {l : List Sea} {k : Nat} {e : Sea} (h : l[k]? = some e) : lastN l (k + 1) = hashN (mixL [13, lastN l k, e.t, e.s, e.x]) := by simp [lastN, h]
def chnL (l : List Sea) : Nat → List Int
  | 0 => []
  | k + 1 => chnL l k ++ [lastN l (k + 1)]
theorem chnL_len (l : List Sea) : ∀ n, (chnL l n).length = n
  | 0 => rfl
  | n + 1 => by rw [chnL, List.length_append, chnL_len l n]; rfl
/-- The first of k, k + 1, .. for which p holds, m numbers at most; the end of them if there is none. -/
def fstK (p : Nat → Bool) : Nat → Nat → Nat
  | k, 0 => k
  | k, m + 1 => if p k = true then k else fstK p (k + 1) m
theorem fstK_yes {p : Nat → Bool} {k n : Nat} (h : p k = true) (hk : k < n) : fstK p k (n - k) = k := by
  obtain ⟨m, hm⟩ : ∃ m, n - k = m + 1 := ⟨n - k - 1, by omega⟩
  rw [hm, fstK, if_pos h]
theorem fstK_no {p : Nat → Bool} {k n : Nat} (h : p k = false) (hk : k < n) : fstK p k (n - k) = fstK p (k + 1) (n - (k + 1)) := by
  obtain ⟨m, hm⟩ : ∃ m, n - k = m + 1 := ⟨n - k - 1, by omega⟩
  rw [hm, fstK, if_neg (by simp [h]), show n - (k + 1) = m by omega]
theorem fstK_end {p : Nat → Bool} {n : Nat} : fstK p n (n - n) = n := by rw [Nat.sub_self]; rfl
def neP (c d : List Int) (k : Nat) : Bool := c[k]? != d[k]?
theorem neP_at {c d : List Int} {k : Nat} {x y : Int} (hx : c[k]? = some x) (hy : d[k]? = some y) : neP c d k = (x != y) := by
  rw [neP, hx, hy]
  simp [bne]
def fbB (l : List Sea) (c : List Int) : Bool := roundB seaB l && decide (c.length = l.length)
def joiB (t : Int) (l : List Int) : Bool := spB 0 30 t && (decide (l.length ≠ 0) && roundB seedB l)
theorem RdI.at_some {w : World} {v : Value} {l : List Int} (h : RdI w v l) (h0 : 0 < l.length) : ∃ g off, (∃ c, v = .slice (some ⟨g, off, none⟩) l.length c) ∧ ∀ i x, l[i]? = some x → w.cell? ⟨g, off + i, none⟩ = some (.int .i64 x) := by
  obtain ⟨A, c, rfl, h⟩ := h
  obtain ⟨g, off, rfl, hc⟩ := h h0
  exact ⟨g, off, ⟨c, rfl⟩, hc⟩
theorem seedB_eq : seedB = spB 0 4611686016279904236 := rfl
theorem rd5 (w : World) (a b c d e : Int) (T : TypeId) : RdI (w.alloc (.cells #[.int .i64 a, .int .i64 b, .int .i64 c, .int .i64 d, .int .i64 e] T)) (.slice (some ⟨w.heap.size, 0, none⟩) 5 5) [a, b, c, d, e] := by
  refine ⟨_, _, rfl, fun _ => ⟨w.heap.size, 0, rfl, fun i z hz => ?_⟩⟩
  rcases i with _ | _ | _ | _ | _ | i
  all_goals first | (simp at hz; subst hz; simp [go_sem]) | simp at hz
theorem own_one' (w : World) (base : Nat) (x : Int) (hb : base ≤ w.heap.size) : OwnI (w.alloc (.cells #[.int .i64 x] 3)) base (.slice (some ⟨w.heap.size, 0, none⟩) 1 1) [x] :=
  World.ownsRow_lit w #[.int .i64 x] 1 hb (by simp [maxLen]) rfl
theorem own_two (w : World) (base : Nat) (x y : Int) (hb : base ≤ w.heap.size) : OwnI (w.alloc (.cells #[.int .i64 x, .int .i64 y] 3)) base (.slice (some ⟨w.heap.size, 0, none⟩) 2 2) [x, y] :=
  World.ownsRow_lit w #[.int .i64 x, .int .i64 y] 2 hb (by simp [maxLen]) rfl
theorem own_four (w : World) (base : Nat) (x y z u : Int) (hb : base ≤ w.heap.size) : OwnI (w.alloc (.cells #[.int .i64 x, .int .i64 y, .int .i64 z, .int .i64 u] 3)) base (.slice (some ⟨w.heap.size, 0, none⟩) 4 4) [x, y, z, u] :=
  World.ownsRow_lit w #[.int .i64 x, .int .i64 y, .int .i64 z, .int .i64 u] 4 hb (by simp [maxLen]) rfl
theorem hash_eq (a b : Int) : hashN (a, b) = a * 2147483648 + b := rfl

end Go.Proofs.YtbohefollbmhkaaGreatDoor

/-
  Lists of numbers appended to a list that the call owns, whatever slice is appended (nil, empty or not): as an equation, as a step of a walk, as an operation of a drawn region. Nothing else that was there is changed.
-/
namespace Go.Proofs.YtbohefollbmhkaaGreatDoor
open Go.RowKit

theorem add_noneL (b off k : Nat) : (⟨b, off, none⟩ : Addr).add k = ⟨b, off + k, none⟩ := by
  unfold Addr.add
  split
  · rename_i h
    simp_all
  · rfl
theorem run_append_ints {w : World} {base : Nat} {v x : Value} {xs ys : List Int} (T : TypeId) (ho : OwnI w base v xs) (hx : RdI w x ys) (hl : xs.length + ys.length ≤ 1000000000000) (hb : base ≤ w.heap.size) :
    ∃ v' w', (Builtin.append_ #[43, 43] T #[v, x]).run Tryz.prog w = .ok v' w' ∧ OwnI w' base v' (xs ++ ys) ∧ w.grownBy w' v.ownBlock := by
  obtain ⟨j0, hj0, hz0, hs0, hb0⟩ := info_parts infoInt
  obtain ⟨A, c, rfl, hx⟩ := hx
  rcases Nat.eq_zero_or_pos ys.length with h0 | h0
  · obtain rfl : ys = [] := List.eq_nil_of_length_eq_zero h0
    have hsrc : Src Tryz.prog j0.size 43 (.slice A 0 c) 0 [] w := by
      cases A with
      | none => exact Src.ofNil w Tryz.underlying43 c
      | some a => exact Src.ofSlice w Tryz.underlying43 a 0 c [] (by simp) (by simp) (by simp)
    obtain ⟨B, n, cap, rfl, hle⟩ : ∃ B n cap, v = .slice B n cap ∧ n ≤ cap := by
      rcases ho.2 with ⟨rfl, hn⟩ | ⟨g, cap, cur, rfl, _, _, h, _⟩
      · exact ⟨none, 0, 0, rfl, Nat.le_refl _⟩
      · exact ⟨_, _, _, rfl, h⟩
    exact ⟨_, _, run_append_nothing w 43 43 T 3 j0 Tryz.underlying43 hj0 B n cap hle _ hsrc, by rw [List.append_nil]; exact ho, World.grownBy.refl w _⟩
  · obtain ⟨g, off, rfl, hc⟩ := hx h0
    obtain ⟨v', w', hr, h2, h3, _⟩ := run_append_own (P := Tryz.prog) (w := w) base 43 T 3 j0 (.int .i64 0) 1 8 Tryz.underlying43 hj0 hz0 hs0 hb0 rfl (by decide) v xs.length (cellsI xs) ho ⟨g, off, none⟩ ys.length c (cellsI ys) (by simp [cellsI])
      (fun j u hu => by
        simp only [cellsI, List.getElem?_map, Option.map_eq_some_iff] at hu
        obtain ⟨x, hx, rfl⟩ := hu
        rw [add_noneL]
        exact hc j x hx)
      (fun u hu => by
        simp only [cellsI, List.mem_map] at hu
        obtain ⟨x, _, rfl⟩ := hu
        rfl)
      (by simp only [maxLen]; omega) (by omega) hb
    refine ⟨v', w', hr, ?_, h3⟩
    unfold OwnI
    rw [List.length_append, show cellsI (xs ++ ys) = cellsI xs ++ cellsI ys by simp [cellsI]]
    exact h2

/-- At the operation, for the walk. -/
theorem wpList_append_ints {ops : Array Oper} {rest : List Oper} {o : Oper} {a : Act} {Q : Exit → Act → World → Prop} {w : World} (hgd : o.guard = none) (s x : Operand)
    (ho : o.op = .call { callee := .builtin .append, args := #[s, x], argTypes := #[43, 43] })
    (base : Nat) (v u : Value) (xs ys : List Int) (hs : a.eval s = v) (hx : a.eval x = u) (own : OwnI w base v xs) (rd : RdI w u ys) (hl : xs.length + ys.length ≤ 1000000000000) (hb : base ≤ w.heap.size)
    (h : ∀ v' w', OwnI w' base v' (xs ++ ys) → w.grownBy w' v.ownBlock → wpList Tryz.prog ops Q rest (a.put o.dst v') w') :
    wpList Tryz.prog ops Q (o :: rest) a w := by
  refine wpList_plain hgd fun K hK => ?_
  obtain ⟨v', w', hr, h2, h3⟩ := run_append_ints o.type own rd hl hb
  unfold Oper.wp execOp
  simp only [ho, resolve, invoke, builtin, Sem.run_bind, Sem.run_pure, Result.andThen_ok, List.map_toArray, List.map_cons, List.map_nil, hs, hx, hr]
  exact hK _ _ (h v' w' h2 h3)

/-- As one operation of a drawn region. -/
theorem step_append_ints {o : Oper} {a : Act} {w : World} {K : Act → World → Prop} {Q : Exit → Act → World → Prop} (s x : Operand)
    (ho : o.op = .call { callee := .builtin .append, args := #[s, x], argTypes := #[43, 43] })
    (base : Nat) (v u : Value) (xs ys : List Int) (hs : a.eval s = v) (hx : a.eval x = u) (own : OwnI w base v xs) (rd : RdI w u ys) (hl : xs.length + ys.length ≤ 1000000000000) (hb : base ≤ w.heap.size)
    (h : ∀ v' w', OwnI w' base v' (xs ++ ys) → w.grownBy w' v.ownBlock → K (a.put o.dst v') w') : Oper.wp Tryz.prog o a w K Q := by
  obtain ⟨v', w', hr, h2, h3⟩ := run_append_ints o.type own rd hl hb
  unfold Oper.wp execOp
  simp only [ho, resolve, invoke, builtin, Sem.run_bind, Sem.run_pure, Result.andThen_ok, List.map_toArray, List.map_cons, List.map_nil, hs, hx, hr]
  exact h v' w' h2 h3

/-- What has grown by a list's own row, made behind w0, leaves w0 as it was. -/
theorem Kp.appended {w0 w w' : World} {base : Nat} {v : Value} {l : List Int} (k : Kp w0 w) (own : OwnI w base v l) (hg : w.grownBy w' v.ownBlock) (hb : w0.heap.size ≤ base) : Kp w0 w' :=
  k.grown hg (fun g e => Nat.le_trans hb (World.ownsRow.lt own g e).1)

end Go.Proofs.YtbohefollbmhkaaGreatDoor
