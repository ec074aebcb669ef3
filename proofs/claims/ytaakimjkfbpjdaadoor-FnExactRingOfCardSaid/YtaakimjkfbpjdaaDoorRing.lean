/-
  The hexes of a ring, one after the other, as a plain function on integers; and what a function says that returns a new list of hexes and true, or none and false.
-/
import Derived.Test.YtaakimjkfbpjdaaDoorMark
import Derived.Test.YtaakimjkfbpjdaaDoorDirs
import Derived.Laws.MakeOwn
namespace Go.Proofs.YtaakimjkfbpjdaaDoor
open Go.RowKit

def posR (n : Nat) (q r : Int) : Nat → Int × Int
  | 0 => (q - n, r + n)
  | i + 1 => ((posR n q r i).1 + dirQ ((i / n : Nat) : Int), (posR n q r i).2 + dirR ((i / n : Nat) : Int))
theorem posR_bd {n : Nat} {q r : Int} (hn : n ≤ 6) (h1 : -40 ≤ q) (h2 : q ≤ 40) (h3 : -40 ≤ r) (h4 : r ≤ 40) : ∀ i : Nat, -(46 + (i : Int)) ≤ (posR n q r i).1 ∧ (posR n q r i).1 ≤ 46 + i ∧ -(46 + (i : Int)) ≤ (posR n q r i).2 ∧ (posR n q r i).2 ≤ 46 + i
  | 0 => by simp only [posR]; omega
  | i + 1 => by
    have h := posR_bd hn h1 h2 h3 h4 i
    have b := dir_bd ((i / n : Nat) : Int)
    simp only [posR]
    omega
theorem posR_step (n : Nat) (q r : Int) (d k : Nat) (hk : k < n) : posR n q r (d * n + k + 1) = ((posR n q r (d * n + k)).1 + dirQ d, (posR n q r (d * n + k)).2 + dirR d) := by
  have e : (d * n + k) / n = d := by
    rw [Nat.add_comm, Nat.add_mul_div_right _ _ (by omega), Nat.div_eq_of_lt hk, Nat.zero_add]
  simp only [posR, e]
def ringUp (n : Nat) (q r : Int) (m : Nat) : List (Int × Int) := (List.range m).map (posR n q r)
theorem ringUp_succ (n : Nat) (q r : Int) (m : Nat) : ringUp n q r (m + 1) = ringUp n q r m ++ [posR n q r m] := by simp [ringUp, List.range_succ]
theorem ringUp_length (n : Nat) (q r : Int) (m : Nat) : (ringUp n q r m).length = m := by simp [ringUp]
def allOk (l : List (Int × Int)) : Bool := l.all fun x => okH x.1 x.2
def ringL (n : Nat) (q r : Int) : List (Int × Int) := if n = 0 then [(q, r)] else ringUp n q r (6 * n)
theorem ringUp_at (n : Nat) (q r : Int) (m i : Nat) (h : i < m) : (ringUp n q r m)[i]? = some (posR n q r i) := by simp [ringUp, h]
theorem allOk_false {l : List (Int × Int)} {i : Nat} {x : Int × Int} (hx : l[i]? = some x) (h : okH x.1 x.2 = false) : allOk l = false := by
  unfold allOk
  rw [List.all_eq_false]
  exact ⟨x, List.mem_of_getElem? hx, by simp [h]⟩
theorem allOk_true {l : List (Int × Int)} (h : ∀ (i : Nat) x, l[i]? = some x → okH x.1 x.2 = true) : allOk l = true := by
  unfold allOk
  rw [List.all_eq_true]
  intro x hx
  obtain ⟨i, hi, rfl⟩ := List.mem_iff_getElem.1 hx
  exact h i _ (List.getElem?_eq_getElem hi)

def ringOk (q r n : Int) : Bool := okH q r && (decide (0 ≤ n) && decide (n ≤ 6)) && allOk (ringL n.toNat q r)

/-- A new list of hexes and true, or none and false. -/
def ListPost (ok : Bool) (l : List (Int × Int)) (w : World) (e : Ending) (w' : World) : Prop :=
  ∃ v, e = .returned (.tuple #[v, .bool ok]) ∧ OwnH w' w.heap.size v (if ok = true then l else []) ∧ Kp w w'
theorem OwnH.nil (w : World) (base : Nat) : OwnH w base (.slice none 0 0) [] := World.ownsRow_nil w base _ 2
theorem ListPost.no {l : List (Int × Int)} {w w' : World} (hk : Kp w w') : ListPost false l w (.returned (.tuple #[.slice none 0 0, .bool false])) w' := ⟨_, rfl, OwnH.nil _ _, hk⟩

theorem grown_set (w : World) (g j : Nat) (u : Value) : w.grownBy (w.setCell ⟨g, j, none⟩ u) (some g) :=
  ⟨rfl, rfl, rfl, by simp, fun k _ hk => heap_setCell_other w ⟨g, j, none⟩ k u (fun e => hk (by simp [e]))⟩
theorem OwnH.far {w : World} {base : Nat} {v : Value} {l : List (Int × Int)} (h : OwnH w base v l) {g j : Nat} (hne : v.ownBlock ≠ some g) (u : Value) : OwnH (w.setCell ⟨g, j, none⟩ u) base v l :=
  World.ownsRow.kept h (grown_set w g j u) (.inr hne)
theorem OwnH.snoc {w : World} {base : Nat} {v : Value} {l : List (Int × Int)} {x : Int × Int} (h : w.ownsRow base 24 2 v (l.length + 1) (cellsH l ++ [.int .i64 x.1, .int .i64 x.2])) : OwnH w base v (l ++ [x]) := by
  unfold OwnH
  rw [cellsH_append, List.length_append]
  exact h
theorem OwnH.block {w : World} {base : Nat} {v : Value} {l : List (Int × Int)} (h : OwnH w base v l) (g : Nat) (hg : w.heap.size ≤ g) : v.ownBlock ≠ some g := fun e => by
  have := (World.ownsRow.lt h g e).2
  omega
theorem OwnH.from_ {w : World} {base : Nat} {v : Value} {l : List (Int × Int)} (h : OwnH w base v l) : ∀ k, v.ownBlock = some k → base ≤ k := fun k e => (World.ownsRow.lt h k e).1
theorem grown_frozen {w w' : World} {row : Option Nat} (hg : w.grownBy w' row) {b o : Nat} {v : Value} (h : w.cell? ⟨b, o, none⟩ = some v) (hne : some b ≠ row) (hf : w.frozen? ⟨b, o, none⟩ = false) : w'.frozen? ⟨b, o, none⟩ = false :=
  (World.frozen?_of_block (hg.block b (cell_lt h) hne)).trans hf

theorem infoHex : (Tryd.prog.info? 24).map (fun i => (i.zero, i.size, i.bytes)) = some (some (hx 0 0), 2, 16) := by kernel_rfl
theorem two_new (w : World) (x y : Value) (t : TypeId) : ∀ j u, [x, y][j]? = some u → (w.alloc (.cells #[x, y] t)).cell? ((⟨w.heap.size, 0, none⟩ : Addr).add j) = some u := by
  intro j u hj
  match j, hj with
  | 0, hj => simp at hj; subst hj; simp [Addr.add]
  | 1, hj => simp at hj; subst hj; simp [Addr.add]

theorem mkRing (n : Nat) (hn : n ≤ 6) (w : World) :
    (Instr.makeSlice 34 (.int .i64 0) (.int .i64 ((n : Int) * 6))).run Tryd.prog w = .ok (.slice (some ⟨w.heap.size, 0, none⟩) 0 (n * 6)) (w.alloc (.cells (madeCells (hx 0 0).cells (n * 6 * 2)) 24)) := by
  obtain ⟨i, hi, hz, hs, hb⟩ := info_parts infoHex
  have hr := run_make (P := Tryd.prog) w 34 24 i (hx 0 0) Tryd.underlying34 hi hz .i64 .i64 0 ((n : Int) * 6) (Int.le_refl _) (by omega) (by rw [hb]; omega) (by omega)
  have e : ((n : Int) * 6).toNat = n * 6 := by omega
  rw [hs, e] at hr
  exact hr
end Go.Proofs.YtaakimjkfbpjdaaDoor
