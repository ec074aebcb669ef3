/-
  The reference's functions on maps return what plain functions on integers and lists say, and change nothing that was there.
-/
import Derived.Test.YtcdfbcmfpeceeaaDoorMapK
import Derived.Test.YtcdfbcmfpeceeaaDoorStep
import Derived.Test.YtcdfbcmfpeceeaaDoorSpB
namespace Go.Proofs.YtcdfbcmfpeceeaaDoor
open Go.RowKit

theorem mSize_any (W H : Int) (t r d : Value) (w : World) (a : 1 ≤ W) (b : W ≤ 10) (c : 1 ≤ H) (e : H ≤ 10) :
    Calls Tryd.prog 107 #[mp W H t r d] w fun e w' => e = .returned (.int .i64 (W * H)) ∧ Kp w w' := by
  have hb := area_bd a b c e
  go_enter Tryd.func107, Tryd.ntmps107
  go_wp2
  go_ret
  exact ⟨rfl, (Kp.refl _).alloc _⟩

theorem mHex_any (W H : Int) (t r d : Value) (i : Int) (w : World) (a : 1 ≤ W) (b : W ≤ 10) (h0 : 0 ≤ i) (h1 : i ≤ 100000) :
    Calls Tryd.prog 137 #[mp W H t r d, .int .i64 i] w fun e w' => e = .returned (hx (i % W) (i / W)) ∧ Kp w w' := by
  have hW0 : W ≠ 0 := by omega
  go_enter Tryd.func137, Tryd.ntmps137
  go_wp2
  go_region
  all_goals
    go_wp2
    exact bodyPost_ret (v := hx (i % W) (i / W)) (by simp [results, Tryd.results137, go_sem]) rfl ⟨rfl, (((Kp.refl _).alloc _).alloc _).drew⟩

def orNo (b : Bool) (x : Int) : Int := if b = true then x else -1
theorem orNo_true (x : Int) : orNo true x = x := rfl
theorem orNo_false (x : Int) : orNo false x = -1 := rfl

def inB (n h : Int) : Bool := decide (0 ≤ n) && decide (n < h)
theorem l1In_lt (n h m : Int) (w : World) (hm : m = h - 1) :
    Calls Tryd.prog 63 #[.int .i64 n, .int .i64 0, .int .i64 m] w fun e w' => e = .returned (.bool (inB n h)) ∧ w = w' := by
  have e : inB n h = (decide (0 ≤ n) && decide (n ≤ m)) := by
    unfold inB
    congr 1
    rw [decide_eq_decide]
    omega
  rw [e]
  exact l1In_gen n 0 m w

theorem mIndex_any (W H : Int) (t r d : Value) (hq hr : Int) (w : World) (a : 1 ≤ W) (b : W ≤ 10) (c : 1 ≤ H) (e : H ≤ 10) :
    Calls Tryd.prog 152 #[mp W H t r d, hx hq hr] w fun e w' => e = .returned (.int .i64 (orNo (inM W H hq hr) (idxM W hq hr))) ∧ Kp w w' := by
  cases h1 : inB hq W
  · have hf : inM W H hq hr = false := by unfold inB at h1; simp only [inM, h1, Bool.false_and]
    rw [hf, orNo_false]
    go_enter Tryd.func152, Tryd.ntmps152
    go_wp2_with fail
    refine (l1In_lt _ W _ _ rfl).mono ?_
    rintro e1 w1 ⟨rfl, rfl⟩
    go_wp2_with fail
    go_ret
    exact ⟨rfl, ((Kp.refl _).alloc _).alloc _⟩
  · cases h2 : inB hr H
    · have hf : inM W H hq hr = false := by unfold inB at h2; simp only [inM, h2, Bool.and_false]
      rw [hf, orNo_false]
      go_enter Tryd.func152, Tryd.ntmps152
      go_wp2_with fail
      refine (l1In_lt _ W _ _ rfl).mono ?_
      rintro e1 w1 ⟨rfl, rfl⟩
      go_wp2_with fail
      refine (l1In_lt _ H _ _ rfl).mono ?_
      rintro e1 w1 ⟨rfl, rfl⟩
      go_wp2_with fail
      go_ret
      exact ⟨rfl, ((Kp.refl _).alloc _).alloc _⟩
    · have hf : inM W H hq hr = true := by unfold inB at h1 h2; simp only [inM, h1, h2, Bool.and_self]
      obtain ⟨b1, b2, b3, b4⟩ := inM_true hf
      have hm := mul_bd a b (r := hr) (by omega) (by omega)
      rw [hf, orNo_true]
      unfold idxM
      clear hf
      go_enter Tryd.func152, Tryd.ntmps152
      go_wp2_with fail
      refine (l1In_lt _ W _ _ rfl).mono ?_
      rintro e1 w1 ⟨rfl, rfl⟩
      go_wp2_with fail
      refine (l1In_lt _ H _ _ rfl).mono ?_
      rintro e1 w1 ⟨rfl, rfl⟩
      go_wp2_with fail
      go_ret
      exact ⟨rfl, ((Kp.refl _).alloc _).alloc _⟩

set_option maxHeartbeats 1000000 in
theorem mNext_any (W H : Int) (t r d : Value) (i x : Int) (w : World) (a : 1 ≤ W) (b : W ≤ 10) (c : 1 ≤ H) (e : H ≤ 10) (h0 : 0 ≤ i) (h1 : i < W * H) (d0 : 0 ≤ x) (d5 : x ≤ 5) :
    Calls Tryd.prog 135 #[mp W H t r d, .int .i64 i, .int .i64 x] w fun e w' => e = .returned (.int .i64 (orNo (nbM W H i x) (nbI W i x))) ∧ Kp w w' := by
  have hA := area_bd a b c e
  have bd := dir_bd x
  have hh := hex_bd a b h0 h1
  unfold nbM nbI nbQ nbR
  have s0 := new5 w (.int .i64 W) (.int .i64 H) t r d 44
  have s1 : (w.alloc (.cells #[.int .i64 W, .int .i64 H, t, r, d] 44)).drew.cell? ⟨w.heap.size, 0, none⟩ = some (.int .i64 W) ∧ (w.alloc (.cells #[.int .i64 W, .int .i64 H, t, r, d] 44)).drew.cell? ⟨w.heap.size, 1, none⟩ = some (.int .i64 H) ∧ (w.alloc (.cells #[.int .i64 W, .int .i64 H, t, r, d] 44)).drew.cell? ⟨w.heap.size, 2, none⟩ = some t ∧ (w.alloc (.cells #[.int .i64 W, .int .i64 H, t, r, d] 44)).drew.cell? ⟨w.heap.size, 3, none⟩ = some r ∧ (w.alloc (.cells #[.int .i64 W, .int .i64 H, t, r, d] 44)).drew.cell? ⟨w.heap.size, 4, none⟩ = some d ∧ Kp w (w.alloc (.cells #[.int .i64 W, .int .i64 H, t, r, d] 44)).drew :=
    ⟨s0.1, s0.2.1, s0.2.2.1, s0.2.2.2.1, s0.2.2.2.2.1, s0.2.2.2.2.2.drew⟩
  go_enter Tryd.func135, Tryd.ntmps135
  go_wp2_with fail
  generalize w.alloc (.cells #[.int .i64 W, .int .i64 H, t, r, d] 44) = W0 at *
  go_region_held3 (fun w' => w'.cell? ⟨w.heap.size, 0, none⟩ = some (.int .i64 W) ∧ w'.cell? ⟨w.heap.size, 1, none⟩ = some (.int .i64 H) ∧ w'.cell? ⟨w.heap.size, 2, none⟩ = some t ∧ w'.cell? ⟨w.heap.size, 3, none⟩ = some r ∧ w'.cell? ⟨w.heap.size, 4, none⟩ = some d ∧ Kp w w') (first | assumption | exact s1)
    (first
      | (go_at_call 137; refine (mHex_any _ _ _ _ _ _ _ a b h0 (by omega)).mono ?_; rintro e wc ⟨rfl, kc⟩; have sc := keep5 kc (by assumption))
      | (go_at_call 153; refine (hStep_any _ _ _ _ d0 d5 (by omega) (by omega) (by omega) (by omega)).mono ?_; rintro e wd ⟨rfl, kd⟩; have sd := keep5 kd (by assumption))
      | (go_at_call 152; refine (mIndex_any _ _ _ _ _ _ _ _ a b c e).mono ?_; rintro e3 we ⟨rfl, ke⟩; have se := keep5 ke (by assumption)))
  all_goals
    go_wp2_with fail
    go_ret
    exact ⟨rfl, se.2.2.2.2.2⟩

theorem mEdge_any (W H : Int) (t r d : Value) (i x : Int) (w : World) (a : 1 ≤ W) (b : W ≤ 10) (c : 1 ≤ H) (e : H ≤ 10) (hn : nbB W H i x = true) :
    Calls Tryd.prog 139 #[mp W H t r d, .int .i64 i, .int .i64 x] w fun e w' => e = .returned (.int .i64 (edgI W i x)) ∧ Kp w w' := by
  have hA := area_bd a b c e
  obtain ⟨⟨i0, i1⟩, ⟨x0, x5⟩, n0, n1⟩ := nbB_true hn
  have hm : nbM W H i x = true := by simp only [nbB, Bool.and_eq_true] at hn; exact hn.2.2
  unfold edgI
  by_cases hx : x < 3
  · rw [if_pos hx]
    clear hn
    go_enter Tryd.func139, Tryd.ntmps139
    go_wp2_with fail
    go_ret
    exact ⟨rfl, (Kp.refl _).alloc _⟩
  · rw [if_neg hx]
    clear hn
    go_enter Tryd.func139, Tryd.ntmps139
    go_wp2_with fail
    refine (mNext_any _ _ _ _ _ _ _ _ a b c e i0 i1 x0 x5).mono ?_
    rintro e1 wa ⟨rfl, ka⟩
    rw [hm, orNo_true]
    go_wp2_with fail
    go_ret
    exact ⟨rfl, ((Kp.refl _).alloc _).trans ka⟩

end Go.Proofs.YtcdfbcmfpeceeaaDoor
