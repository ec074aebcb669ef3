/-
  The hexes of a walk, one after the other, as a plain function on integers.
-/
import Derived.Test.YtmodcmkmfedgoaaDoorInts
import Derived.Test.YtmodcmkmfedgoaaDoorDirs
import Derived.Test.YtmodcmkmfedgoaaDoorHAll
namespace Go.Proofs.YtmodcmkmfedgoaaDoor
open Go.RowKit

def walkP (l : List Int) (q r : Int) : Nat → Int × Int
  | 0 => (q, r)
  | k + 1 => ((walkP l q r k).1 + dirQ (l[k]?.getD 0), (walkP l q r k).2 + dirR (l[k]?.getD 0))
theorem walkP_bd {l : List Int} {q r : Int} (h1 : -40 ≤ q) (h2 : q ≤ 40) (h3 : -40 ≤ r) (h4 : r ≤ 40) : ∀ i : Nat, -(40 + (i : Int)) ≤ (walkP l q r i).1 ∧ (walkP l q r i).1 ≤ 40 + i ∧ -(40 + (i : Int)) ≤ (walkP l q r i).2 ∧ (walkP l q r i).2 ≤ 40 + i
  | 0 => by simp only [walkP]; omega
  | i + 1 => by
    have h := walkP_bd (l := l) h1 h2 h3 h4 i
    have b := dir_bd (l[i]?.getD 0)
    simp only [walkP]
    omega
def walkUp (l : List Int) (q r : Int) (m : Nat) : List (Int × Int) := (List.range m).map fun i => walkP l q r (i + 1)
theorem walkUp_succ (l : List Int) (q r : Int) (m : Nat) : walkUp l q r (m + 1) = walkUp l q r m ++ [walkP l q r (m + 1)] := by simp [walkUp, List.range_succ]
theorem walkUp_length (l : List Int) (q r : Int) (m : Nat) : (walkUp l q r m).length = m := by simp [walkUp]
theorem walkUp_at (l : List Int) (q r : Int) (m i : Nat) (h : i < m) : (walkUp l q r m)[i]? = some (walkP l q r (i + 1)) := by simp [walkUp, h]
def dirB (d : Int) : Bool := decide (0 ≤ d) && decide (d ≤ 5)
def dirsOk (l : List Int) : Bool := l.all dirB
theorem dirsOk_false {l : List Int} {i : Nat} {x : Int} (hx : l[i]? = some x) (h : dirB x = false) : dirsOk l = false := by
  unfold dirsOk
  rw [List.all_eq_false]
  exact ⟨x, List.mem_of_getElem? hx, by simp [h]⟩
theorem dirsOk_true {l : List Int} (h : ∀ (i : Nat) x, l[i]? = some x → dirB x = true) : dirsOk l = true := by
  unfold dirsOk
  rw [List.all_eq_true]
  intro x hx
  obtain ⟨i, hi, rfl⟩ := List.mem_iff_getElem.1 hx
  exact h i _ (List.getElem?_eq_getElem hi)
theorem dirsOk_at {l : List Int} (h : dirsOk l = true) {i : Nat} {x : Int} (hx : l[i]? = some x) : 0 ≤ x ∧ x ≤ 5 := by
  have := (List.all_eq_true.1 h) x (List.mem_of_getElem? hx)
  simpa [dirB] using this
def walkOk (l : List Int) (q r : Int) : Bool := okH q r && decide (l.length ≤ 60) && dirsOk l && allOk (walkUp l q r l.length)

theorem mkHexes (n : Nat) (hn : n ≤ 60) (w : World) :
    (Instr.makeSlice 28 (.int .i64 0) (.int .i64 (n : Int))).run Tryd.prog w = .ok (.slice (some ⟨w.heap.size, 0, none⟩) 0 n) (w.alloc (.cells (madeCells (hx 0 0).cells (n * 2)) 25)) := by
  obtain ⟨i, hi, hz, hs, hb⟩ := info_parts infoHex
  have hr := run_make (P := Tryd.prog) w 28 25 i (hx 0 0) Tryd.underlying28 hi hz .i64 .i64 0 (n : Int) (Int.le_refl _) (by omega) (by rw [hb]; omega) (by omega)
  rw [hs, Int.toNat_natCast] at hr
  exact hr

theorem l1All_any (v : Value) (l : List Int) (w : World) (h : RdI w v l) (hl : l.length ≤ 1048576) :
    Calls Tryd.prog 34 #[v, .int .i64 0, .int .i64 5] w fun e w' => e = .returned (.bool (dirsOk l)) ∧ w = w' := by
  obtain ⟨A, c, rfl, h⟩ := h
  have HA := Lib.hid h
  clear h
  obtain ⟨n, hn⟩ : ∃ n, l.length = n := ⟨_, rfl⟩
  have HN := Lib.hid hn
  rw [hn] at hl ⊢
  rw [hn] at HA
  clear hn
  go_enter Tryd.func34, Tryd.ntmps34
  go_wp2_with fail
  go_loop [11] (fun i => ∃ k : Nat, k ≤ n ∧ i = .int .i64 k ∧ Hid (∀ j x, j < k → l[j]? = some x → dirB x = true)) (fun i => n - (intOf i).toNat)
  case atStart => exact ⟨0, by omega, rfl, Lib.hid fun j x hj => absurd hj (by omega)⟩
  case round =>
    obtain ⟨k, hk, rfl, hokR⟩ := hrel
    by_cases hlt : k < n
    · obtain ⟨g, off, rfl, hc⟩ := HA.out (by omega)
      obtain ⟨x, hx⟩ : ∃ x, l[k]? = some x := ⟨l[k]'(by have := HN.out; omega), List.getElem?_eq_getElem _⟩
      have a0 := hc k x hx
      have HX := Lib.hid hx
      clear hc hx
      have hlt' : (k : Int) < n := by omega
      cases hok : dirB x
      · have HK := Lib.hid (show (decide (0 ≤ x) && decide (x ≤ 5)) = false from hok)
        go_wp2_with fail
        refine (l1In_gen _ _ _ _).mono ?_
        rintro e w1 ⟨rfl, rfl⟩
        rw [HK.out]
        go_wp2_with fail
        go_ret
        rw [dirsOk_false HX.out hok]
        exact ⟨rfl, rfl⟩
      · have HK := Lib.hid (show (decide (0 ≤ x) && decide (x ≤ 5)) = true from hok)
        have hns : Hid (∀ j x, j < k + 1 → l[j]? = some x → dirB x = true) := Lib.hid fun j y hj hy => by
          rcases Nat.lt_or_ge j k with h | h
          · exact hokR.out j y h hy
          · obtain rfl : j = k := by omega
            rw [HX.out] at hy
            obtain rfl := Option.some.inj hy
            exact hok
        go_wp2_with fail
        refine (l1In_gen _ _ _ _).mono ?_
        rintro e w1 ⟨rfl, rfl⟩
        rw [HK.out]
        go_wp2_with fail
        go_round
        case rel => exact ⟨k + 1, by omega, by go_num, hns⟩
        case measure => simp [intOf]; omega
    · obtain rfl : k = n := by omega
      go_wp2_with fail
      go_ret
      rw [dirsOk_true fun i x hx => hokR.out i x (by have := (List.getElem?_eq_some_iff.1 hx).1; have := HN.out; omega) hx]
      exact ⟨rfl, rfl⟩
end Go.Proofs.YtmodcmkmfedgoaaDoor
