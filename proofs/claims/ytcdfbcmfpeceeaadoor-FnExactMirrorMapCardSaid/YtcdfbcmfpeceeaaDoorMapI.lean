/-
  The program's small functions on maps return what plain functions on integers say, and change nothing that was there.
-/
import Derived.Test.YtcdfbcmfpeceeaaDoorMapM
import Derived.Test.YtcdfbcmfpeceeaaDoorDir
namespace Go.Proofs.YtcdfbcmfpeceeaaDoor
open Go.RowKit

abbrev mp (W H : Int) (t r d : Value) : Value := .agg #[.int .i64 W, .int .i64 H, t, r, d]

theorem isSide_any (n : Int) (w : World) :
    Calls Tryd.prog 111 #[.int .i64 n] w fun e w' => e = .returned (.bool (sideB n)) ∧ w = w' := by
  by_cases h1 : 1 ≤ n
  · by_cases h2 : n ≤ 10
    · go_enter Tryd.func111, Tryd.ntmps111
      go_wp2
      go_ret
      exact ⟨ret_bool (by simp [sideB, h1, h2]), rfl⟩
    · go_enter Tryd.func111, Tryd.ntmps111
      go_wp2
      go_ret
      exact ⟨ret_bool (by simp [sideB]; omega), rfl⟩
  · go_enter Tryd.func111, Tryd.ntmps111
    go_wp2
    go_ret
    exact ⟨ret_bool (by simp [sideB]; omega), rfl⟩

theorem isTerrain_any (n : Int) (w : World) :
    Calls Tryd.prog 112 #[.int .i64 n] w fun e w' => e = .returned (.bool (terrB n)) ∧ w = w' := by
  by_cases h1 : 0 ≤ n
  · by_cases h2 : n < 6
    · go_enter Tryd.func112, Tryd.ntmps112
      go_wp2
      go_ret
      exact ⟨ret_bool (by simp [terrB]; omega), rfl⟩
    · go_enter Tryd.func112, Tryd.ntmps112
      go_wp2
      go_ret
      exact ⟨ret_bool (by simp [terrB]; omega), rfl⟩
  · go_enter Tryd.func112, Tryd.ntmps112
    go_wp2
    go_ret
    exact ⟨ret_bool (by simp [terrB]; omega), rfl⟩

theorem countHexes_any (W H : Int) (t r d : Value) (w : World) (a : 1 ≤ W) (b : W ≤ 10) (c : 1 ≤ H) (e : H ≤ 10) :
    Calls Tryd.prog 75 #[mp W H t r d] w fun e w' => e = .returned (.int .i64 (W * H)) ∧ Kp w w' := by
  have hb := area_bd a b c e
  go_enter Tryd.func75, Tryd.ntmps75
  go_wp2
  go_ret
  exact ⟨rfl, (Kp.refl _).alloc _⟩

theorem isIndex_any (W H : Int) (t r d : Value) (i : Int) (w : World) (a : 1 ≤ W) (b : W ≤ 10) (c : 1 ≤ H) (e : H ≤ 10) :
    Calls Tryd.prog 154 #[mp W H t r d, .int .i64 i] w fun e w' => e = .returned (.bool (onI W H i)) ∧ Kp w w' := by
  by_cases h0 : 0 ≤ i
  · by_cases h1 : i < W * H
    · go_enter Tryd.func154, Tryd.ntmps154
      go_wp2_with fail
      refine (countHexes_any _ _ _ _ _ _ a b c e).mono ?_
      rintro e w1 ⟨rfl, k1⟩
      go_wp2
      go_ret
      exact ⟨ret_bool (onI_mk h0 h1).symm, ((Kp.refl _).alloc _).trans k1⟩
    · have hd : decide (i < W * H) = false := by simpa using h1
      go_enter Tryd.func154, Tryd.ntmps154
      go_wp2_with fail
      refine (countHexes_any _ _ _ _ _ _ a b c e).mono ?_
      rintro e w1 ⟨rfl, k1⟩
      go_wp2
      go_ret
      exact ⟨ret_bool (by simp [onI]; omega), ((Kp.refl _).alloc _).trans k1⟩
  · have hd : decide (0 ≤ i) = false := by simpa using h0
    go_enter Tryd.func154, Tryd.ntmps154
    go_wp2
    go_ret
    exact ⟨ret_bool (by simp [onI]; omega), (Kp.refl _).alloc _⟩

theorem hexWithIndex_any (W H : Int) (t r d : Value) (i : Int) (w : World) (a : 1 ≤ W) (b : W ≤ 10) (h0 : 0 ≤ i) (h1 : i ≤ 100000) :
    Calls Tryd.prog 115 #[mp W H t r d, .int .i64 i] w fun e w' => e = .returned (hx (i % W) (i / W)) ∧ Kp w w' := by
  have hW0 : W ≠ 0 := by omega
  go_enter Tryd.func115, Tryd.ntmps115
  go_wp2
  go_region
  all_goals
    go_wp2
    exact bodyPost_ret (v := hx (i % W) (i / W)) (by simp [results, Tryd.results115, go_sem]) rfl ⟨rfl, (((Kp.refl _).alloc _).alloc _).drew⟩

theorem ib_true (x : Int) : ib true x = .tuple #[.int .i64 x, .bool true] := rfl
theorem ib_false (x : Int) : ib false x = .tuple #[.int .i64 0, .bool false] := rfl

theorem indexOfHex_any (W H : Int) (t r d : Value) (hq hr : Int) (w : World) (a : 1 ≤ W) (b : W ≤ 10) (c : 1 ≤ H) (e : H ≤ 10) :
    Calls Tryd.prog 156 #[mp W H t r d, hx hq hr] w fun e w' => e = .returned (ib (inM W H hq hr) (idxM W hq hr)) ∧ Kp w w' := by
  by_cases h : 0 ≤ hq ∧ hq < W ∧ 0 ≤ hr ∧ hr < H
  · obtain ⟨h1, h2, h3, h4⟩ := h
    rw [inM_mk h1 h2 h3 h4, ib_true]
    have hm := mul_bd a b (r := hr) (by omega) (by omega)
    unfold idxM
    go_enter Tryd.func156, Tryd.ntmps156
    go_wp2
    go_ret2
    exact ⟨rfl, ((Kp.refl _).alloc _).alloc _⟩
  · have hf : inM W H hq hr = false := by simp [inM]; omega
    rw [hf, ib_false]
    clear hf
    go_enter Tryd.func156, Tryd.ntmps156
    go_wp2
    all_goals
      go_ret2
      exact ⟨rfl, ((Kp.refl _).alloc _).alloc _⟩

end Go.Proofs.YtcdfbcmfpeceeaaDoor
