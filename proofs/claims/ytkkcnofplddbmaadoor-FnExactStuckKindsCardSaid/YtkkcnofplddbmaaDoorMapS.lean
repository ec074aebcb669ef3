/-
  The reference's functions on maps return what plain functions on integers and lists say, and change nothing that was there.
-/
import Derived.Test.YtkkcnofplddbmaaDoorMapK
import Derived.Test.YtkkcnofplddbmaaDoorStep
namespace Go.Proofs.YtkkcnofplddbmaaDoor
open Go.RowKit

theorem mSize_any (W H : Int) (t r d : Value) (w : World) (a : 1 ≤ W) (b : W ≤ 10) (c : 1 ≤ H) (e : H ≤ 10) :
    Calls Tryd.prog 101 #[mp W H t r d] w fun e w' => e = .returned (.int .i64 (W * H)) ∧ Kp w w' := by
  have hb := area_bd a b c e
  go_enter Tryd.func101, Tryd.ntmps101
  go_wp2
  go_ret
  exact ⟨rfl, (Kp.refl _).alloc _⟩

theorem mHex_any (W H : Int) (t r d : Value) (i : Int) (w : World) (a : 1 ≤ W) (b : W ≤ 10) (h0 : 0 ≤ i) (h1 : i ≤ 100000) :
    Calls Tryd.prog 121 #[mp W H t r d, .int .i64 i] w fun e w' => e = .returned (hx (i % W) (i / W)) ∧ Kp w w' := by
  have hW0 : W ≠ 0 := by omega
  go_enter Tryd.func121, Tryd.ntmps121
  go_wp2
  go_region
  all_goals
    go_wp2
    exact bodyPost_ret (v := hx (i % W) (i / W)) (by simp [results, Tryd.results121, go_sem]) rfl ⟨rfl, (((Kp.refl _).alloc _).alloc _).drew⟩

def orNo (b : Bool) (x : Int) : Int := if b = true then x else -1
theorem orNo_true (x : Int) : orNo true x = x := rfl
theorem orNo_false (x : Int) : orNo false x = -1 := rfl

def inB (n h : Int) : Bool := decide (0 ≤ n) && decide (n < h)
theorem l1In_lt (n h m : Int) (w : World) (hm : m = h - 1) :
    Calls Tryd.prog 91 #[.int .i64 n, .int .i64 0, .int .i64 m] w fun e w' => e = .returned (.bool (inB n h)) ∧ w = w' := by
  have e : inB n h = (decide (0 ≤ n) && decide (n ≤ m)) := by
    unfold inB
    congr 1
    rw [decide_eq_decide]
    omega
  rw [e]
  exact l1In_gen n 0 m w

theorem mIndex_any (W H : Int) (t r d : Value) (hq hr : Int) (w : World) (a : 1 ≤ W) (b : W ≤ 10) (c : 1 ≤ H) (e : H ≤ 10) :
    Calls Tryd.prog 119 #[mp W H t r d, hx hq hr] w fun e w' => e = .returned (.int .i64 (orNo (inM W H hq hr) (idxM W hq hr))) ∧ Kp w w' := by
  cases h1 : inB hq W
  · have hf : inM W H hq hr = false := by unfold inB at h1; simp only [inM, h1, Bool.false_and]
    rw [hf, orNo_false]
    go_enter Tryd.func119, Tryd.ntmps119
    go_wp2_with fail
    refine (l1In_lt _ W _ _ rfl).mono ?_
    rintro e1 w1 ⟨rfl, rfl⟩
    go_wp2_with fail
    go_ret
    exact ⟨rfl, ((Kp.refl _).alloc _).alloc _⟩
  · cases h2 : inB hr H
    · have hf : inM W H hq hr = false := by unfold inB at h2; simp only [inM, h2, Bool.and_false]
      rw [hf, orNo_false]
      go_enter Tryd.func119, Tryd.ntmps119
      go_wp2_with fail
      refine (l1In_lt _ W _ _ rfl).mono ?_
      rintro e1 w1 ⟨rfl, rfl⟩
      go_wp2_with fail
      refine (l1In_lt _ H _ _ rfl).mono ?_
      rintro e1 w1 ⟨rfl, rfl⟩
      go_wp2_with fail
      go_ret
      exact ⟨rfl, ((Kp.refl _).alloc _).alloc _⟩
    · have hf : inM W H hq hr = true := by unfold inB at h1 h2; simp only [inM, h1, h2, Bool.and_self]
      obtain ⟨b1, b2, b3, b4⟩ := inM_true hf
      have hm := mul_bd a b (r := hr) (by omega) (by omega)
      rw [hf, orNo_true]
      unfold idxM
      clear hf
      go_enter Tryd.func119, Tryd.ntmps119
      go_wp2_with fail
      refine (l1In_lt _ W _ _ rfl).mono ?_
      rintro e1 w1 ⟨rfl, rfl⟩
      go_wp2_with fail
      refine (l1In_lt _ H _ _ rfl).mono ?_
      rintro e1 w1 ⟨rfl, rfl⟩
      go_wp2_with fail
      go_ret
      exact ⟨rfl, ((Kp.refl _).alloc _).alloc _⟩

set_option maxHeartbeats 1000000 in
theorem mNext_any (W H : Int) (t r d : Value) (i x : Int) (w : World) (a : 1 ≤ W) (b : W ≤ 10) (c : 1 ≤ H) (e : H ≤ 10) (h0 : 0 ≤ i) (h1 : i < W * H) (d0 : 0 ≤ x) (d5 : x ≤ 5) :
    Calls Tryd.prog 105 #[mp W H t r d, .int .i64 i, .int .i64 x] w fun e w' => e = .returned (.int .i64 (orNo (nbM W H i x) (nbI W i x))) ∧ Kp w w' := by
  have hA := area_bd a b c e
  have bd := dir_bd x
  have hh := hex_bd a b h0 h1
  unfold nbM nbI nbQ nbR
  have s0 := new5 w (.int .i64 W) (.int .i64 H) t r d 42
  have s1 : (w.alloc (.cells #[.int .i64 W, .int .i64 H, t, r, d] 42)).drew.cell? ⟨w.heap.size, 0, none⟩ = some (.int .i64 W) ∧ (w.alloc (.cells #[.int .i64 W, .int .i64 H, t, r, d] 42)).drew.cell? ⟨w.heap.size, 1, none⟩ = some (.int .i64 H) ∧ (w.alloc (.cells #[.int .i64 W, .int .i64 H, t, r, d] 42)).drew.cell? ⟨w.heap.size, 2, none⟩ = some t ∧ (w.alloc (.cells #[.int .i64 W, .int .i64 H, t, r, d] 42)).drew.cell? ⟨w.heap.size, 3, none⟩ = some r ∧ (w.alloc (.cells #[.int .i64 W, .int .i64 H, t, r, d] 42)).drew.cell? ⟨w.heap.size, 4, none⟩ = some d ∧ Kp w (w.alloc (.cells #[.int .i64 W, .int .i64 H, t, r, d] 42)).drew :=
    ⟨s0.1, s0.2.1, s0.2.2.1, s0.2.2.2.1, s0.2.2.2.2.1, s0.2.2.2.2.2.drew⟩
  go_enter Tryd.func105, Tryd.ntmps105
  go_wp2_with fail
  generalize w.alloc (.cells #[.int .i64 W, .int .i64 H, t, r, d] 42) = W0 at *
  go_region_held3 (fun w' => w'.cell? ⟨w.heap.size, 0, none⟩ = some (.int .i64 W) ∧ w'.cell? ⟨w.heap.size, 1, none⟩ = some (.int .i64 H) ∧ w'.cell? ⟨w.heap.size, 2, none⟩ = some t ∧ w'.cell? ⟨w.heap.size, 3, none⟩ = some r ∧ w'.cell? ⟨w.heap.size, 4, none⟩ = some d ∧ Kp w w') (first | assumption | exact s1)
    (first
      | (go_at_call 121; refine (mHex_any _ _ _ _ _ _ _ a b h0 (by omega)).mono ?_; rintro e wc ⟨rfl, kc⟩; have sc := keep5 kc (by assumption))
      | (go_at_call 120; refine (hStep_any _ _ _ _ d0 d5 (by omega) (by omega) (by omega) (by omega)).mono ?_; rintro e wd ⟨rfl, kd⟩; have sd := keep5 kd (by assumption))
      | (go_at_call 119; refine (mIndex_any _ _ _ _ _ _ _ _ a b c e).mono ?_; rintro e3 we ⟨rfl, ke⟩; have se := keep5 ke (by assumption)))
  all_goals
    go_wp2_with fail
    go_ret
    exact ⟨rfl, se.2.2.2.2.2⟩

theorem mEdge_any (W H : Int) (t r d : Value) (i x : Int) (w : World) (a : 1 ≤ W) (b : W ≤ 10) (c : 1 ≤ H) (e : H ≤ 10) (hn : nbB W H i x = true) :
    Calls Tryd.prog 125 #[mp W H t r d, .int .i64 i, .int .i64 x] w fun e w' => e = .returned (.int .i64 (edgI W i x)) ∧ Kp w w' := by
  have hA := area_bd a b c e
  obtain ⟨⟨i0, i1⟩, ⟨x0, x5⟩, n0, n1⟩ := nbB_true hn
  have hm : nbM W H i x = true := by simp only [nbB, Bool.and_eq_true] at hn; exact hn.2.2
  unfold edgI
  by_cases hx : x < 3
  · rw [if_pos hx]
    clear hn
    go_enter Tryd.func125, Tryd.ntmps125
    go_wp2_with fail
    go_ret
    exact ⟨rfl, (Kp.refl _).alloc _⟩
  · rw [if_neg hx]
    clear hn
    go_enter Tryd.func125, Tryd.ntmps125
    go_wp2_with fail
    refine (mNext_any _ _ _ _ _ _ _ _ a b c e i0 i1 x0 x5).mono ?_
    rintro e1 wa ⟨rfl, ka⟩
    rw [hm, orNo_true]
    go_wp2_with fail
    go_ret
    exact ⟨rfl, ((Kp.refl _).alloc _).trans ka⟩

theorem l1All_any (v : Value) (l : List Int) (lo hi : Int) (w : World) (h : RdI w v l) (hl : l.length ≤ 1048576) :
    Calls Tryd.prog 93 #[v, .int .i64 lo, .int .i64 hi] w fun e w' => e = .returned (.bool (l.all fun n => decide (lo ≤ n) && decide (n ≤ hi))) ∧ w = w' := by
  obtain ⟨A, cp, rfl, h⟩ := h
  have HA := Lib.hid h
  obtain ⟨f, hf⟩ : ∃ f : Int → Bool, f = fun n => decide (lo ≤ n) && decide (n ≤ hi) := ⟨_, rfl⟩
  have CI : ∀ n w, Calls Tryd.prog 91 #[.int .i64 n, .int .i64 lo, .int .i64 hi] w fun e w' => e = .returned (.bool (f n)) ∧ w = w' := fun n w => by rw [hf]; exact l1In_gen n lo hi w
  have HC := Lib.hid CI
  rw [← hf]
  obtain ⟨R, hR⟩ : ∃ R, R = l.all f := ⟨_, rfl⟩
  rw [← hR]
  have HR := Lib.hid hR
  clear h hR CI hf
  generalize hn : l.length = n at *
  have HN := Lib.hid hn
  clear hn
  go_enter Tryd.func93, Tryd.ntmps93
  go_wp2_with fail
  go_loop [8, 11] (fun _ i => ∃ k : Nat, k ≤ n ∧ i = .int .i64 k ∧ Hid ((l.drop k).all f = R)) (fun _ i => n - (intOf i).toNat)
  case atStart => exact ⟨0, by omega, rfl, Lib.hid HR.out.symm⟩
  case round =>
    obtain ⟨k, hk, rfl, hE⟩ := hrel
    by_cases hlt : k < n
    · obtain ⟨g, off, rfl, hc⟩ := HA.out (by omega)
      obtain ⟨x, hx⟩ : ∃ x, l[k]? = some x := ⟨l[k]'(by have := HN.out; omega), List.getElem?_eq_getElem _⟩
      have a0 := hc k x hx
      have HX := Lib.hid (drop_step hx)
      clear hc hx
      have hlt' : (k : Int) < n := by omega
      cases hok : f x
      · go_wp2_with fail
        refine (HC.out _ _).mono ?_
        rintro e1 wy ⟨rfl, rfl⟩
        go_wp2_with fail
        go_ret
        have e : R = false := by rw [← hE.out, HX.out]; exact all_no hok
        exact ⟨ret_bool e.symm, rfl⟩
      · have HE2 : Hid ((l.drop (k + 1)).all f = R) := Lib.hid (by rw [← hE.out, HX.out]; exact (all_go hok).symm)
        go_wp2_with fail
        refine (HC.out _ _).mono ?_
        rintro e1 wy ⟨rfl, rfl⟩
        go_wp2_with fail
        go_round
        case rel => exact ⟨k + 1, by omega, by go_num, HE2⟩
        case measure => simp [intOf]; omega
    · obtain rfl : k = n := by omega
      go_wp2_with fail
      go_ret
      refine ⟨ret_bool ?_, rfl⟩
      rw [← hE.out, List.drop_of_length_le (by rw [HN.out]; omega)]
      rfl

end Go.Proofs.YtkkcnofplddbmaaDoor
