/-
  The reference's look at a list of hexes: the list and true if all are valid, none and false otherwise. Nothing that was there is changed.
-/
import Derived.Test.YtmodcmkmfedgoaaDoorRowB
namespace Go.Proofs.YtmodcmkmfedgoaaDoor
open Go.RowKit

def AllPost (v : Value) (l : List (Int × Int)) (w : World) (e : Ending) (w' : World) : Prop := e = .returned (.tuple #[if allOk l = true then v else .slice none 0 0, .bool (allOk l)]) ∧ Kp w w'

theorem hAll_any (v : Value) (l : List (Int × Int)) (w : World) (h : RdH w v l) (hl : l.length ≤ 1000000) :
    Calls Tryd.prog 26 #[v] w (AllPost v l w) := by
  obtain ⟨A, c, rfl, h⟩ := h
  have HA := Lib.hid h
  have HLn := Lib.hid (rfl : l.length = l.length)
  clear h
  generalize hn : l.length = n at *
  have HN := Lib.hid hn
  clear hn HLn
  go_enter Tryd.func26, Tryd.ntmps26
  go_wp2_with fail
  go_loopw [8] (fun i wr => ∃ k : Nat, k ≤ n ∧ i = .int .i64 k ∧ Hid (∀ j x, j < k → l[j]? = some x → okH x.1 x.2 = true) ∧ Kp w wr) (fun i _ => n - (intOf i).toNat)
  case atStart => exact ⟨0, by omega, rfl, Lib.hid fun j x hj => absurd hj (by omega), Kp.refl _⟩
  case round =>
    obtain ⟨k, hk, rfl, hokR, kr⟩ := hrel
    by_cases hlt : k < n
    · obtain ⟨g, off, rfl, hc⟩ := HA.out (by omega)
      obtain ⟨x, hx⟩ : ∃ x, l[k]? = some x := ⟨l[k]'(by have := HN.out; omega), List.getElem?_eq_getElem _⟩
      have a0 := kr.cell (hc k x hx).1
      have a1 := kr.cell (hc k x hx).2
      have HX := Lib.hid hx
      clear hc hx
      have hlt' : (k : Int) < n := by omega
      obtain ⟨px, py⟩ := x
      simp only at a0 a1
      cases hok : okH px py
      · go_wp2_with fail
        refine (hGood_any _ _ _).mono ?_
        rintro e w1 ⟨rfl, k1⟩
        go_wp2_with fail
        go_ret2
        have e : allOk l = false := allOk_false HX.out hok
        unfold AllPost
        rw [e]
        exact ⟨rfl, (kr.alloc _).trans k1⟩
      · have hns : Hid (∀ j x, j < k + 1 → l[j]? = some x → okH x.1 x.2 = true) := Lib.hid fun j x hj hx => by
          rcases Nat.lt_or_ge j k with h | h
          · exact hokR.out j x h hx
          · obtain rfl : j = k := by omega
            rw [HX.out] at hx
            obtain rfl := Option.some.inj hx
            exact hok
        go_wp2_with fail
        refine (hGood_any _ _ _).mono ?_
        rintro e w1 ⟨rfl, k1⟩
        go_wp2_with fail
        go_roundw
        case rel => exact ⟨k + 1, by omega, by go_num, hns, (kr.alloc _).trans k1⟩
        case measure => simp [intOf]; omega
    · obtain rfl : k = n := by omega
      go_wp2_with fail
      go_ret2
      have e : allOk l = true := allOk_true fun i x hx => hokR.out i x (by have := (List.getElem?_eq_some_iff.1 hx).1; have := HN.out; omega) hx
      unfold AllPost
      rw [e]
      exact ⟨rfl, kr⟩

/-- A new list of hexes. -/
def NewPost (l : List (Int × Int)) (w : World) (e : Ending) (w' : World) : Prop := ∃ v, e = .returned v ∧ OwnH w' w.heap.size v l ∧ Kp w w'

end Go.Proofs.YtmodcmkmfedgoaaDoor
