/-
  Rivers and roads of a map, the program's and the reference's: what plain functions say, and nothing that was there is changed. The table of directions holds what the program's text lays.
-/
import Derived.Test.YtkkcnofplddbmaaDoorMapF
namespace Go.Proofs.YtkkcnofplddbmaaDoor
open Go.RowKit

def hasB (l : List Int) (m : Int) : Bool := l.contains m
theorem has_yes {x n : Int} {l : List Int} (h : x = n) : hasB (x :: l) n = true := by simp [hasB, h]
theorem has_no {x n : Int} {l : List Int} (h : ¬ x = n) : hasB (x :: l) n = hasB l n := by
  unfold hasB
  rw [List.contains_cons]
  have : (n == x) = false := by simpa using fun e : n = x => h e.symm
  rw [this, Bool.false_or]

theorem l1Has_any (v : Value) (l : List Int) (m : Int) (w : World) (h : RdI w v l) (hl : l.length ≤ 1048576) :
    Calls Tryd.prog 76 #[v, .int .i64 m] w fun e w' => e = .returned (.bool (hasB l m)) ∧ w = w' := by
  obtain ⟨A, cp, rfl, h⟩ := h
  have HA := Lib.hid h
  obtain ⟨R, hR⟩ : ∃ R, R = hasB l m := ⟨_, rfl⟩
  rw [← hR]
  have HR := Lib.hid hR
  clear h hR
  generalize hn : l.length = n at *
  have HN := Lib.hid hn
  clear hn
  go_enter Tryd.func76, Tryd.ntmps76
  go_wp2_with fail
  go_loop [6, 9] (fun _ i => ∃ k : Nat, k ≤ n ∧ i = .int .i64 k ∧ Hid (hasB (l.drop k) m = R)) (fun _ i => n - (intOf i).toNat)
  case atStart => exact ⟨0, by omega, rfl, Lib.hid HR.out.symm⟩
  case round =>
    obtain ⟨k, hk, rfl, hE⟩ := hrel
    by_cases hlt : k < n
    · obtain ⟨g, off, rfl, hc⟩ := HA.out (by omega)
      obtain ⟨x, hx⟩ : ∃ x, l[k]? = some x := ⟨l[k]'(by have := HN.out; omega), List.getElem?_eq_getElem _⟩
      have a0 := hc k x hx
      have HX := Lib.hid (drop_step hx)
      clear hc hx
      have hlt' : (k : Int) < n := by omega
      by_cases hok : x = m
      · have HE2 : Hid (R = true) := Lib.hid (by rw [← hE.out, HX.out]; exact has_yes hok)
        have he : (x == m) = true := by simpa using hok
        clear hok
        go_wp2_with fail
        go_ret
        exact ⟨ret_bool HE2.out.symm, rfl⟩
      · have HE2 : Hid (hasB (l.drop (k + 1)) m = R) := Lib.hid (by rw [← hE.out, HX.out]; exact (has_no hok).symm)
        have he : (x == m) = false := by simpa using hok
        clear hok
        go_wp2_with fail
        go_round
        case rel => exact ⟨k + 1, by omega, by go_num, HE2⟩
        case measure => simp [intOf]; omega
    · obtain rfl : k = n := by omega
      go_wp2_with fail
      go_ret
      refine ⟨ret_bool ?_, rfl⟩
      rw [← hE.out, List.drop_of_length_le (by rw [HN.out]; omega)]
      rfl

/-- A place at which the number stands, or a negative number. -/
def IndexPost (l : List Int) (m : Int) (w : World) (e : Ending) (w' : World) : Prop := ∃ j : Int, e = .returned (.int .i64 j) ∧ decide (0 ≤ j) = hasB l m ∧ w = w'

theorem index_any (v : Value) (l : List Int) (m : Int) (w : World) (h : RdI w v l) (hl : l.length ≤ 1048576) :
    Calls Tryd.prog 107 #[v, .int .i64 m] w (IndexPost l m w) := by
  obtain ⟨A, cp, rfl, h⟩ := h
  have HA := Lib.hid h
  obtain ⟨R, hR⟩ : ∃ R, R = hasB l m := ⟨_, rfl⟩
  have HR := Lib.hid hR
  have HP : Hid (∀ j : Int, decide (0 ≤ j) = R → IndexPost l m w (.returned (.int .i64 j)) w) := Lib.hid fun j hj => ⟨j, rfl, hj.trans hR, rfl⟩
  clear h hR
  generalize hn : l.length = n at *
  have HN := Lib.hid hn
  clear hn
  go_enter Tryd.func107, Tryd.ntmps107
  go_wp2_with fail
  go_loop [5, 8] (fun _ i => ∃ k : Nat, k ≤ n ∧ i = .int .i64 k ∧ Hid (hasB (l.drop k) m = R)) (fun _ i => n - (intOf i).toNat)
  case atStart => exact ⟨0, by omega, rfl, Lib.hid HR.out.symm⟩
  case round =>
    obtain ⟨k, hk, rfl, hE⟩ := hrel
    by_cases hlt : k < n
    · obtain ⟨g, off, rfl, hc⟩ := HA.out (by omega)
      obtain ⟨x, hx⟩ : ∃ x, l[k]? = some x := ⟨l[k]'(by have := HN.out; omega), List.getElem?_eq_getElem _⟩
      have a0 := hc k x hx
      have HX := Lib.hid (drop_step hx)
      clear hc hx
      have hlt' : (k : Int) < n := by omega
      by_cases hok : x = m
      · have HE2 : Hid (R = true) := Lib.hid (by rw [← hE.out, HX.out]; exact has_yes hok)
        have he : (m == x) = true := by simpa using hok.symm
        clear hok
        go_wp2_with fail
        go_ret
        exact HP.out _ (by rw [HE2.out]; simp)
      · have HE2 : Hid (hasB (l.drop (k + 1)) m = R) := Lib.hid (by rw [← hE.out, HX.out]; exact (has_no hok).symm)
        have he : (m == x) = false := by simpa using fun e : m = x => hok e.symm
        clear hok
        go_wp2_with fail
        go_round
        case rel => exact ⟨k + 1, by omega, by go_num, HE2⟩
        case measure => simp [intOf]; omega
    · obtain rfl : k = n := by omega
      go_wp2_with fail
      go_ret
      refine HP.out _ ?_
      rw [← hE.out, List.drop_of_length_le (by rw [HN.out]; omega)]
      rfl

theorem contains_any (v : Value) (l : List Int) (m : Int) (w : World) (h : RdI w v l) (hl : l.length ≤ 1048576) :
    Calls Tryd.prog 77 #[v, .int .i64 m] w fun e w' => e = .returned (.bool (hasB l m)) ∧ w = w' := by
  obtain ⟨R, hR⟩ : ∃ R, R = hasB l m := ⟨_, rfl⟩
  have C := index_any v l m w h hl
  unfold IndexPost at C
  rw [← hR] at C ⊢
  have HC := Lib.hid C
  clear hR C h
  go_enter Tryd.func77, Tryd.ntmps77
  go_wp2_with fail
  refine HC.out.mono ?_
  rintro e w1 ⟨j, rfl, hj, rfl⟩
  subst hj
  go_wp2_with fail
  go_ret
  exact ⟨rfl, rfl⟩

end Go.Proofs.YtkkcnofplddbmaaDoor
