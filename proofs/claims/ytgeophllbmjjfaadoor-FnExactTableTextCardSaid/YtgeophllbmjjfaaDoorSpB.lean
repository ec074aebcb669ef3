/-
  The reference's tests of numbers within a range, one and all of a list.
-/
import Derived.Test.YtgeophllbmjjfaaDoorRulM
import Derived.Test.YtgeophllbmjjfaaDoorInts
namespace Go.Proofs.YtgeophllbmjjfaaDoor
open Go.RowKit

theorem drop_step {α : Type} {l : List α} {k : Nat} {x : α} (h : l[k]? = some x) : l.drop k = x :: l.drop (k + 1) := by
  obtain ⟨hk, rfl⟩ := List.getElem?_eq_some_iff.1 h
  exact List.drop_eq_getElem_cons hk
theorem all_no {f : Int → Bool} {x : Int} {l : List Int} (h : f x = false) : (x :: l).all f = false := by simp [h]
theorem all_go {f : Int → Bool} {x : Int} {l : List Int} (h : f x = true) : (x :: l).all f = l.all f := by simp [h]
theorem l1All_any (v : Value) (l : List Int) (lo hi : Int) (w : World) (h : RdI w v l) (hl : l.length ≤ 1048576) :
    Calls Tryd.prog 36 #[v, .int .i64 lo, .int .i64 hi] w fun e w' => e = .returned (.bool (l.all fun n => decide (lo ≤ n) && decide (n ≤ hi))) ∧ w = w' := by
  obtain ⟨A, cp, rfl, h⟩ := h
  have HA := Lib.hid h
  obtain ⟨f, hf⟩ : ∃ f : Int → Bool, f = fun n => decide (lo ≤ n) && decide (n ≤ hi) := ⟨_, rfl⟩
  have CI : ∀ n w, Calls Tryd.prog 34 #[.int .i64 n, .int .i64 lo, .int .i64 hi] w fun e w' => e = .returned (.bool (f n)) ∧ w = w' := fun n w => by rw [hf]; exact l1In_gen n lo hi w
  have HC := Lib.hid CI
  rw [← hf]
  obtain ⟨R, hR⟩ : ∃ R, R = l.all f := ⟨_, rfl⟩
  rw [← hR]
  have HR := Lib.hid hR
  clear h hR CI hf
  generalize hn : l.length = n at *
  have HN := Lib.hid hn
  clear hn
  go_enter Tryd.func36, Tryd.ntmps36
  go_wp2_with fail
  go_loop [8, 11] (fun _ i => ∃ k : Nat, k ≤ n ∧ i = .int .i64 k ∧ Hid ((l.drop k).all f = R)) (fun _ i => n - (intOf i).toNat)
  case atStart => exact ⟨0, by omega, rfl, Lib.hid HR.out.symm⟩
  case round =>
    obtain ⟨k, hk, rfl, hE⟩ := hrel
    by_cases hlt : k < n
    · obtain ⟨g, off, rfl, hc⟩ := HA.out (by omega)
      obtain ⟨x, hx⟩ : ∃ x, l[k]? = some x := ⟨l[k]'(by have := HN.out; omega), List.getElem?_eq_getElem _⟩
      have a0 := hc k x hx
      have HX := Lib.hid (drop_step hx)
      clear hc hx
      have hlt' : (k : Int) < n := by omega
      cases hok : f x
      · go_wp2_with fail
        refine (HC.out _ _).mono ?_
        rintro e1 wy ⟨rfl, rfl⟩
        go_wp2_with fail
        go_ret
        have e : R = false := by rw [← hE.out, HX.out]; exact all_no hok
        exact ⟨ret_bool e.symm, rfl⟩
      · have HE2 : Hid ((l.drop (k + 1)).all f = R) := Lib.hid (by rw [← hE.out, HX.out]; exact (all_go hok).symm)
        go_wp2_with fail
        refine (HC.out _ _).mono ?_
        rintro e1 wy ⟨rfl, rfl⟩
        go_wp2_with fail
        go_round
        case rel => exact ⟨k + 1, by omega, by go_num, HE2⟩
        case measure => simp [intOf]; omega
    · obtain rfl : k = n := by omega
      go_wp2_with fail
      go_ret
      refine ⟨ret_bool ?_, rfl⟩
      rw [← hE.out, List.drop_of_length_le (by rw [HN.out]; omega)]
      rfl
theorem l1In_sp (n lo hi : Int) (w : World) :
    Calls Tryd.prog 34 #[.int .i64 n, .int .i64 lo, .int .i64 hi] w fun e w' => e = .returned (.bool (spB lo hi n)) ∧ w = w' := l1In_gen n lo hi w

theorem l1All_sp (v : Value) (l : List Int) (lo hi : Int) (w : World) (h : RdI w v l) (hl : l.length ≤ 1048576) :
    Calls Tryd.prog 36 #[v, .int .i64 lo, .int .i64 hi] w fun e w' => e = .returned (.bool (l.all (spB lo hi))) ∧ w = w' := l1All_any v l lo hi w h hl
theorem upto_more {f : Nat → Bool} {k : Nat} (h : f k = true) (hn : ∀ j, j < k → f j = true) : ∀ j, j < k + 1 → f j = true := fun j hj => by
  rcases Nat.lt_or_ge j k with h1 | h1
  · exact hn j h1
  · obtain rfl : j = k := by omega
    exact h

end Go.Proofs.YtgeophllbmjjfaaDoor
