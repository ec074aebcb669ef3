/-
  The six directions: the table of the program and the two lists of the reference hold the same steps; the functions on neighbours return what plain functions on integers say, and change nothing that was there.
-/
import Derived.Test.YtmodcmkmfedgoaaDoorHexB
import Derived.Test.YtmodcmkmfedgoaaDoorDirs
import Derived.Test.YtmodcmkmfedgoaaDoorFar
import Derived.RegionTactic
import Derived.BigRegion
import Derived.Deep.RegionHeld3
namespace Go.Proofs.YtmodcmkmfedgoaaDoor
open Go.RowKit

theorem isDirection_any (n : Int) (w : World) :
    Calls Tryd.prog 42 #[.int .i64 n] w fun e w' => e = .returned (.bool (decide (0 ≤ n) && decide (n ≤ 5))) ∧ w = w' := by
  by_cases h1 : 0 ≤ n
  · by_cases h2 : n < 6
    · have h3 : n ≤ 5 := by omega
      go_enter Tryd.func42, Tryd.ntmps42
      go_wp2
      go_ret
      exact ⟨ret_bool (by simp [h1, h3]), rfl⟩
    · have h3 : ¬ n ≤ 5 := by omega
      go_enter Tryd.func42, Tryd.ntmps42
      go_wp2
      go_ret
      exact ⟨ret_bool (by simp; omega), rfl⟩
  · go_enter Tryd.func42, Tryd.ntmps42
    go_wp2
    go_ret
    exact ⟨ret_bool (by simp; omega), rfl⟩


/-- The program's table of directions, as its text lays it. -/
def Tab (w : World) : Prop := ∀ d : Nat, d < 6 → w.cell? ⟨0, d * 2, none⟩ = some (.int .i64 (dirQ d)) ∧ w.cell? ⟨0, d * 2 + 1, none⟩ = some (.int .i64 (dirR d))
theorem Tab.keep {w w' : World} (h : Tab w) (hk : Kp w w') : Tab w' := fun d hd => ⟨hk.cell (h d hd).1, hk.cell (h d hd).2⟩

def nbOk (q r d : Int) : Bool := okH q r && (decide (0 ≤ d) && decide (d ≤ 5)) && okH (q + dirQ d) (r + dirR d)

theorem neighbourOf_no (q r d : Int) (w : World) (h : okH q r = false ∨ (decide (0 ≤ d) && decide (d ≤ 5)) = false) :
    Calls Tryd.prog 33 #[hx q r, .int .i64 d] w fun e w' => e = .returned (.tuple #[hx 0 0, .bool false]) ∧ Kp w w' := by
  have hl : w.heap.size < w.heap.size + 1 + 1 := by omega
  cases ha : okH q r
  · go_enter Tryd.func33, Tryd.ntmps33
    go_wp2_with fail
    refine (isHex_any _ _ _).mono ?_
    rintro e w1 ⟨rfl, hk⟩
    obtain ⟨hc, hf⟩ := hk.cells
    go_wp2_with fail
    exact bodyPost_ret (v := .tuple #[hx 0 0, .bool false]) (by simp [results, Tryd.results33, go_sem, *]) rfl ⟨rfl, (((((Kp.refl _).alloc _).alloc _).trans hk).setCell (by simp <;> omega) _).setCell (by simp <;> omega) _⟩
  · have hb : (decide (0 ≤ d) && decide (d ≤ 5)) = false := by
      rcases h with h | h
      · rw [ha] at h; cases h
      · exact h
    have HB := Lib.hid hb
    clear h hb
    go_enter Tryd.func33, Tryd.ntmps33
    go_wp2_with fail
    refine (isHex_any _ _ _).mono ?_
    rintro e w1 ⟨rfl, hk⟩
    obtain ⟨hc, hf⟩ := hk.cells
    go_wp2_with fail
    refine (isDirection_any _ _).mono ?_
    rintro e w2 ⟨rfl, rfl⟩
    rw [HB.out]
    go_wp2_with fail
    exact bodyPost_ret (v := .tuple #[hx 0 0, .bool false]) (by simp [results, Tryd.results33, go_sem, *]) rfl ⟨rfl, (((((Kp.refl _).alloc _).alloc _).trans hk).setCell (by simp <;> omega) _).setCell (by simp <;> omega) _⟩

theorem neighbourOf_yes (q r d : Int) (w : World) (ht : Tab w) (ha : okH q r = true) (hd0 : 0 ≤ d) (hd5 : d ≤ 5) :
    Calls Tryd.prog 33 #[hx q r, .int .i64 d] w fun e w' => e = .returned (hb3 (okH (q + dirQ d) (r + dirR d)) (q + dirQ d) (r + dirR d)) ∧ Kp w w' := by
  have A1 := okH_true ha
  obtain ⟨n, rfl⟩ := Int.eq_ofNat_of_zero_le hd0
  have bd := dir_bd n
  have hb : (decide (0 ≤ (n : Int)) && decide ((n : Int) ≤ 5)) = true := by simp [hd5]
  have HB := Lib.hid hb
  have HT := Lib.hid ht
  have hn : (n : Int) < 6 := by omega
  clear hb ht
  have hl : w.heap.size < w.heap.size + 1 + 1 := by omega
  go_enter Tryd.func33, Tryd.ntmps33
  go_wp2_with fail
  refine (isHex_any _ _ _).mono ?_
  rintro e wa ⟨rfl, ka⟩
  have c20 : wa.cell? ⟨w.heap.size, 0, none⟩ = some (.int .i64 q) := ka.cell (by simp [go_sem])
  have c21 : wa.cell? ⟨w.heap.size, 1, none⟩ = some (.int .i64 r) := ka.cell (by simp [go_sem])
  have c40 : wa.cell? ⟨w.heap.size + 1, 0, none⟩ = some (.int .i64 0) := ka.cell (by simp [go_sem])
  have c41 : wa.cell? ⟨w.heap.size + 1, 1, none⟩ = some (.int .i64 0) := ka.cell (by simp [go_sem])
  have f40 : wa.frozen? ⟨w.heap.size + 1, 0, none⟩ = false := (ka.cells.2 _ _ (by simp)).trans (by simp [go_sem])
  have f41 : wa.frozen? ⟨w.heap.size + 1, 1, none⟩ = false := (ka.cells.2 _ _ (by simp)).trans (by simp [go_sem])
  have hz : w.heap.size + 1 < wa.heap.size := by have := ka.size; simp at this; omega
  have hK : Kp w wa := (((Kp.refl _).alloc _).alloc _).trans ka
  obtain ⟨t0, t1⟩ := HT.out.keep hK n (by omega)
  clear ka hl
  go_wp2_with fail
  refine (isDirection_any _ _).mono ?_
  rintro e w2 ⟨rfl, rfl⟩
  rw [HB.out]
  go_wp2_with fail
  go_region_held3 (fun w' => w'.cell? ⟨w.heap.size, 0, none⟩ = some (.int .i64 q) ∧ w'.cell? ⟨w.heap.size, 1, none⟩ = some (.int .i64 r) ∧ w'.cell? ⟨0, n * 2, none⟩ = some (.int .i64 (dirQ n)) ∧ w'.cell? ⟨0, n * 2 + 1, none⟩ = some (.int .i64 (dirR n))) (first | assumption | go_keep)
    (first
      | (go_at_call 22; refine (shifted_any _ _ _ _ _ (by omega) (by omega) (by omega) (by omega) (by omega) (by omega) (by omega) (by omega)).mono ?_; rintro e wb ⟨rfl, kb⟩; have sb := kb.four (by assumption); obtain ⟨cb0, fb0⟩ := kb.liv (p := ⟨w.heap.size + 1, 0, none⟩) (v := .int .i64 0) ⟨by assumption, by assumption⟩; obtain ⟨cb1, fb1⟩ := kb.liv (p := ⟨w.heap.size + 1, 1, none⟩) (v := .int .i64 0) ⟨by assumption, by assumption⟩)
      | (go_at_call 43; refine (onlyValid_any _ _ _).mono ?_; rintro e wc ⟨rfl, kc⟩; have sc := kc.four (by assumption); obtain ⟨cc0, fc0⟩ := kc.liv (p := ⟨w.heap.size + 1, 0, none⟩) (v := .int .i64 0) ⟨by assumption, by assumption⟩; obtain ⟨cc1, fc1⟩ := kc.liv (p := ⟨w.heap.size + 1, 1, none⟩) (v := .int .i64 0) ⟨by assumption, by assumption⟩))
  go_wp2_with fail
  exact bodyPost_ret (v := hb3 (okH (q + dirQ n) (r + dirR n)) (q + dirQ n) (r + dirR n)) (by simp [results, Tryd.results33, go_sem, *]) rfl ⟨rfl, (((hK.drew.trans kb).trans kc).setCell (by simp <;> omega) _).setCell (by simp <;> omega) _⟩

theorem neighbourOf_any (q r d : Int) (w : World) (ht : Tab w) :
    Calls Tryd.prog 33 #[hx q r, .int .i64 d] w fun e w' => e = .returned (hb3 (nbOk q r d) (q + dirQ d) (r + dirR d)) ∧ Kp w w' := by
  cases ha : okH q r
  · have e : nbOk q r d = false := by simp [nbOk, ha]
    rw [e]
    exact neighbourOf_no q r d w (.inl ha)
  · cases hb : decide (0 ≤ d) && decide (d ≤ 5)
    · have e : nbOk q r d = false := by simp only [nbOk, hb, Bool.and_false, Bool.false_and]
      rw [e]
      exact neighbourOf_no q r d w (.inr hb)
    · have e : nbOk q r d = okH (q + dirQ d) (r + dirR d) := by simp only [nbOk, ha, hb, Bool.true_and]
      rw [e]
      simp only [Bool.and_eq_true, decide_eq_true_eq] at hb
      exact neighbourOf_yes q r d w ht ha hb.1 hb.2

/-- The answer of DirectionTo at the differences x, y. -/
def dirRes (x y : Int) : Int × Bool :=
  if x = 1 ∧ y = 0 then (0, true) else if x = 1 ∧ y = -1 then (1, true) else if x = 0 ∧ y = -1 then (2, true) else if x = -1 ∧ y = 0 then (3, true) else if x = -1 ∧ y = 1 then (4, true) else if x = 0 ∧ y = 1 then (5, true) else (0, false)
def noDir (x y : Int) (k : Nat) : Prop := ∀ j : Nat, j < k → ¬ (x = dirQ j ∧ y = dirR j)
theorem dirRes_at {x y : Int} {k : Nat} (hk : k < 6) (h : x = dirQ k ∧ y = dirR k) : dirRes x y = ((k : Int), true) := by
  obtain ⟨rfl, rfl⟩ := h
  match k, hk with
  | 0, _ => decide
  | 1, _ => decide
  | 2, _ => decide
  | 3, _ => decide
  | 4, _ => decide
  | 5, _ => decide
theorem dirRes_no {x y : Int} (h : noDir x y 6) : dirRes x y = (0, false) := by
  have h0 := h 0 (by omega)
  have h1 := h 1 (by omega)
  have h2 := h 2 (by omega)
  have h3 := h 3 (by omega)
  have h4 := h 4 (by omega)
  have h5 := h 5 (by omega)
  simp [dirQ, dirR] at h0 h1 h2 h3 h4 h5
  unfold dirRes
  rw [if_neg (by omega), if_neg (by omega), if_neg (by omega), if_neg (by omega), if_neg (by omega), if_neg (by omega)]
theorem noDir_succ {x y : Int} {k : Nat} (h : noDir x y k) (hk : ¬ (x = dirQ k ∧ y = dirR k)) : noDir x y (k + 1) := fun j hj => by
  rcases Nat.lt_succ_iff_lt_or_eq.1 hj with h' | rfl
  · exact h j h'
  · exact hk
end Go.Proofs.YtmodcmkmfedgoaaDoor
