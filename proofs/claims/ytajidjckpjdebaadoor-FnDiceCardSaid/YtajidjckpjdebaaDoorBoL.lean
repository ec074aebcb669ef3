/-
  Slices of bools that a call owns, told by a function of the place: none, a store.
-/
import Derived.Test.YtajidjckpjdebaaDoorInts
namespace Go.Proofs.YtajidjckpjdebaaDoor
open Go.RowKit

def boolsL (f : Nat → Bool) (n : Nat) : List Value := (List.range n).map fun j => Value.bool (f j)
def OwnBo (w : World) (base : Nat) (v : Value) (n : Nat) (f : Nat → Bool) : Prop := w.ownsRow base 4 1 v n (boolsL f n)
theorem OwnBo.keep {w w' : World} {base n : Nat} {v : Value} {f : Nat → Bool} (h : OwnBo w base v n f) (k : Kp w w') : OwnBo w' base v n f := ownsRow_keep h k
theorem OwnBo.put {w : World} {base n g c : Nat} {f : Nat → Bool} (h : OwnBo w base (.slice (some ⟨g, 0, none⟩) n c) n f) {k : Nat} (hk : k < n) (b : Bool) :
    (∃ u, w.cell? ⟨g, k, none⟩ = some u) ∧ w.frozen? ⟨g, k, none⟩ = false ∧ OwnBo (w.setCell ⟨g, k, none⟩ (.bool b)) base (.slice (some ⟨g, 0, none⟩) n c) n (fun j => if j = k then b else f j) := by
  have hl : (boolsL f n).length = n * 1 := h.1
  refine ⟨⟨_, (World.ownsRow.cellAt h k (by omega)).trans (List.getElem?_eq_getElem (by omega))⟩, World.ownsRow.frozenAt h k, ?_⟩
  have h1 := (World.ownsRow.stored h k (.bool b)).1
  have e : boolsL (fun j => if j = k then b else f j) n = (boolsL f n).set k (.bool b) := by
    apply List.ext_getElem?
    intro j
    rw [List.getElem?_set]
    by_cases hj : j < n
    · by_cases hjk : k = j
      · subst hjk; simp [boolsL, hj]
      · simp [boolsL, hj, hjk, Ne.symm hjk]
    · have h9 : n ≤ j := by omega
      simp [boolsL, h9]
      omega
  unfold OwnBo
  rw [e]
  exact h1
theorem OwnBo.cong {w : World} {base n : Nat} {v : Value} {f g : Nat → Bool} (h : OwnBo w base v n f) (e : ∀ j, j < n → f j = g j) : OwnBo w base v n g := by
  have : boolsL f n = boolsL g n := List.map_congr_left fun j hj => by rw [e j (List.mem_range.1 hj)]
  unfold OwnBo
  rw [← this]
  exact h
theorem infoBool : (Tryd.prog.info? 4).map (fun i => (i.zero, i.size, i.bytes)) = some (some (.bool false), 1, 1) := by kernel_rfl
theorem mkBools (n : Nat) (hn : n ≤ 1048576) (w : World) :
    (Instr.makeSlice 35 (.int .i64 (n : Int)) (.int .i64 (n : Int))).run Tryd.prog w = .ok (.slice (some ⟨w.heap.size, 0, none⟩) n n) (w.alloc (.cells (madeCells #[.bool false] n) 4)) := by
  obtain ⟨i, hi, hz, hs, hb⟩ := info_parts infoBool
  have hr := run_make (P := Tryd.prog) w 35 4 i (.bool false) Tryd.underlying35 hi hz .i64 .i64 (n : Int) (n : Int) (by omega) (Int.le_refl _) (by rw [hb]; omega) (by omega)
  rw [hs, Int.toNat_natCast, Nat.mul_one] at hr
  exact hr
theorem ownBo_zero (w : World) (n : Nat) (hn : n ≤ 1048576) : OwnBo (w.alloc (.cells (madeCells #[.bool false] n) 4)) w.heap.size (.slice (some ⟨w.heap.size, 0, none⟩) n n) n (fun _ => false) := by
  have own0 : (w.alloc (.cells (madeCells #[.bool false] n) 4)).ownsRow w.heap.size 4 1 (.slice (some ⟨w.heap.size, 0, none⟩) n n) n (madeCells #[.bool false] n).toList :=
    World.ownsRow_lit w _ n (Nat.le_refl _) (by simp only [maxLen]; omega) (by rw [size_madeCells, Nat.mul_one])
  have e : boolsL (fun _ => false) n = (madeCells #[.bool false] n).toList := by
    apply List.ext_getElem?
    intro j
    by_cases hj : j < n
    · have : j % 1 = 0 := Nat.mod_one j
      simp [boolsL, madeCells, hj, this]
    · simp [boolsL, madeCells, hj]
  unfold OwnBo
  rw [e]
  exact own0
theorem OwnBo.at {w : World} {base n g c : Nat} {f : Nat → Bool} (h : OwnBo w base (.slice (some ⟨g, 0, none⟩) n c) n f) {k : Nat} (hk : k < n) : w.cell? ⟨g, k, none⟩ = some (.bool (f k)) := by
  have h0 : w.ownsRow base 4 1 (.slice (some ⟨g, 0, none⟩) n c) n (boolsL f n) := h
  exact (World.ownsRow.cellAt h0 k (by omega)).trans (by simp [boolsL, hk])

end Go.Proofs.YtajidjckpjdebaaDoor
