/-
  Chapter 9's functions on steps, both sides: StepCost, StepCosts, PathHexes, PathCost, StepsWithin. Nothing that was there is changed. The named variables hold what the program's text lays.
-/
import Derived.Test.YtngifnnpimfimaaDoorCsQ
import Derived.Test.YtngifnnpimfimaaDoorCsS
import Derived.Test.YtngifnnpimfimaaDoorTabH
import Derived.StillTailTactics
import Derived.Deep.Cut
import Derived.Maps.AppendAt
import Derived.Test.YtngifnnpimfimaaDoorQa
import Derived.Test.YtngifnnpimfimaaDoorQa
namespace Go.Proofs.YtngifnnpimfimaaDoor
open Go.RowKit


set_option maxRecDepth 100000 in
set_option maxHeartbeats 4000000 in
theorem isMoverOn_any (At Ak : Option Addr) (nt nk ct ck : Nat) (l : List Ter) (m : List Knd) (a b c d e W H : Int) (x r y : Value) (lt lr ld : List Int) (kx tw : Int) (w : World) (hs : SpC w) (ht : Tab w) (hB : BrdAt w At Ak nt nk l m x r y lt lr ld) :
    Calls Tryd.prog 58 #[bv (.slice At nt ct) (.slice Ak nk ck) a b c d e W H x r y, .int .i64 kx, .int .i64 tw] w fun e' w' => e' = .returned (.bool ((brdOk ⟨l, m, a, b, c, d, e⟩ W H lt lr ld && inB kx nk) && spB 0 2 tw)) ∧ Kp w w' := by
  have KA : Kp w (w.alloc (.cells #[.slice At nt ct, .slice Ak nk ck, .int .i64 a, .int .i64 b, .int .i64 c, .int .i64 d, .int .i64 e, .int .i64 W, .int .i64 H, x, r, y] 42)) := (Kp.refl w).alloc _
  have s0 : cb12 (w.alloc (.cells #[.slice At nt ct, .slice Ak nk ck, .int .i64 a, .int .i64 b, .int .i64 c, .int .i64 d, .int .i64 e, .int .i64 W, .int .i64 H, x, r, y] 42)) (w.heap.size) (.slice At nt ct) (.slice Ak nk ck) (.int .i64 a) (.int .i64 b) (.int .i64 c) (.int .i64 d) (.int .i64 e) (.int .i64 W) (.int .i64 H) (x) (r) (y) (Kp w (w.alloc (.cells #[.slice At nt ct, .slice Ak nk ck, .int .i64 a, .int .i64 b, .int .i64 c, .int .i64 d, .int .i64 e, .int .i64 W, .int .i64 H, x, r, y] 42))) := ⟨by simp [go_sem], by simp [go_sem], by simp [go_sem], by simp [go_sem], by simp [go_sem], by simp [go_sem], by simp [go_sem], by simp [go_sem], by simp [go_sem], by simp [go_sem], by simp [go_sem], by simp [go_sem], KA⟩
  have HB := Lib.hid hB
  have HT := Lib.hid ht
  have HS := Lib.hid hs
  have C1 := Lib.hid (fun (w : World) hs ht hB => isKindOn_any At Ak nt nk ct ck l m a b c d e W H x r y lt lr ld kx w hs ht hB)
  have C2 := Lib.hid (fun (w : World) => has_any 0 2 tw w)
  generalize (brdOk ⟨l, m, a, b, c, d, e⟩ W H lt lr ld && inB kx nk) = P at C1 ⊢
  generalize spB 0 2 tw = Q at C2 ⊢
  clear hB ht hs
  cases P
  · rw [Bool.false_and]
    clear C2
    go_enter Tryd.func58, Tryd.ntmps58
    go_wp2_with fail
    refine (C1.out _ (HS.out.sp.keep s0.2.2.2.2.2.2.2.2.2.2.2.2) (HT.out.keep s0.2.2.2.2.2.2.2.2.2.2.2.2) (HB.out.keep s0.2.2.2.2.2.2.2.2.2.2.2.2)).mono ?_
    rintro e1 w1 ⟨rfl, k1⟩
    go_wp2_with fail
    go_ret
    exact ⟨rfl, s0.2.2.2.2.2.2.2.2.2.2.2.2.trans k1⟩
  · rw [Bool.true_and]
    go_enter Tryd.func58, Tryd.ntmps58
    go_wp2_with fail
    refine (C1.out _ (HS.out.sp.keep s0.2.2.2.2.2.2.2.2.2.2.2.2) (HT.out.keep s0.2.2.2.2.2.2.2.2.2.2.2.2) (HB.out.keep s0.2.2.2.2.2.2.2.2.2.2.2.2)).mono ?_
    rintro e1 w1 ⟨rfl, k1⟩
    obtain ⟨g1, g2⟩ := (s0.2.2.2.2.2.2.2.2.2.2.2.2.trans k1).two HS.out.wt
    go_wp2_with fail
    refine (C2.out _).mono ?_
    rintro e2 w2 ⟨rfl, k2⟩
    go_wp2_with fail
    go_ret
    exact ⟨rfl, (s0.2.2.2.2.2.2.2.2.2.2.2.2.trans k1).trans k2⟩

theorem and_swap (p q t : Bool) : ((p && t) && q) = ((p && q) && t) := by cases p <;> cases q <;> cases t <;> rfl
set_option maxRecDepth 100000 in
set_option maxHeartbeats 4000000 in
theorem isMoverAt_any (At Ak : Option Addr) (nt nk ct ck : Nat) (l : List Ter) (m : List Knd) (a b c d e W H : Int) (x r y : Value) (lt lr ld : List Int) (kx tw i : Int) (w : World) (hs : SpC w) (ht : Tab w) (hB : BrdAt w At Ak nt nk l m x r y lt lr ld) :
    Calls Tryd.prog 39 #[bv (.slice At nt ct) (.slice Ak nk ck) a b c d e W H x r y, .int .i64 kx, .int .i64 tw, .int .i64 i] w fun e' w' => e' = .returned (.bool ((brdOk ⟨l, m, a, b, c, d, e⟩ W H lt lr ld && inB kx nk && onI W H i) && spB 0 2 tw)) ∧ Kp w w' := by
  have KA : Kp w (w.alloc (.cells #[.slice At nt ct, .slice Ak nk ck, .int .i64 a, .int .i64 b, .int .i64 c, .int .i64 d, .int .i64 e, .int .i64 W, .int .i64 H, x, r, y] 42)) := (Kp.refl w).alloc _
  have s0 : cb12 (w.alloc (.cells #[.slice At nt ct, .slice Ak nk ck, .int .i64 a, .int .i64 b, .int .i64 c, .int .i64 d, .int .i64 e, .int .i64 W, .int .i64 H, x, r, y] 42)) (w.heap.size) (.slice At nt ct) (.slice Ak nk ck) (.int .i64 a) (.int .i64 b) (.int .i64 c) (.int .i64 d) (.int .i64 e) (.int .i64 W) (.int .i64 H) (x) (r) (y) (Kp w (w.alloc (.cells #[.slice At nt ct, .slice Ak nk ck, .int .i64 a, .int .i64 b, .int .i64 c, .int .i64 d, .int .i64 e, .int .i64 W, .int .i64 H, x, r, y] 42))) := ⟨by simp [go_sem], by simp [go_sem], by simp [go_sem], by simp [go_sem], by simp [go_sem], by simp [go_sem], by simp [go_sem], by simp [go_sem], by simp [go_sem], by simp [go_sem], by simp [go_sem], by simp [go_sem], KA⟩
  have HB := Lib.hid hB
  have HT := Lib.hid ht
  have HS := Lib.hid hs
  have C1 := Lib.hid (fun (w : World) hs ht hB => isMoverOn_any At Ak nt nk ct ck l m a b c d e W H x r y lt lr ld kx tw w hs ht hB)
  have CX : Hid (((brdOk ⟨l, m, a, b, c, d, e⟩ W H lt lr ld && inB kx nk) && spB 0 2 tw) = true → ∀ w, Calls Tryd.prog 70 #[mp W H x r y, .int .i64 i] w fun e w' => e = .returned (.bool (onI W H i)) ∧ Kp w w') := Lib.hid fun h1 w => by
    simp only [Bool.and_eq_true] at h1
    obtain ⟨p1, p2, p3, p4⟩ := mapOk_side (brdOk_map h1.1.1)
    exact isIndex_any W H x r y i w p1 p2 p3 p4
  have HE : Hid (((brdOk ⟨l, m, a, b, c, d, e⟩ W H lt lr ld && inB kx nk && onI W H i) && spB 0 2 tw) = (((brdOk ⟨l, m, a, b, c, d, e⟩ W H lt lr ld && inB kx nk) && spB 0 2 tw) && onI W H i)) := Lib.hid (and_swap _ _ _).symm
  rw [HE.out]
  generalize ((brdOk ⟨l, m, a, b, c, d, e⟩ W H lt lr ld && inB kx nk) && spB 0 2 tw) = P at C1 CX ⊢
  generalize onI W H i = Q at CX ⊢
  clear hB ht hs HE
  cases P
  · rw [Bool.false_and]
    clear CX
    go_enter Tryd.func39, Tryd.ntmps39
    go_wp2_with fail
    refine (C1.out _ (HS.out.keep s0.2.2.2.2.2.2.2.2.2.2.2.2) (HT.out.keep s0.2.2.2.2.2.2.2.2.2.2.2.2) (HB.out.keep s0.2.2.2.2.2.2.2.2.2.2.2.2)).mono ?_
    rintro e1 w1 ⟨rfl, k1⟩
    go_wp2_with fail
    go_ret
    exact ⟨rfl, s0.2.2.2.2.2.2.2.2.2.2.2.2.trans k1⟩
  · rw [Bool.true_and]
    have CX2 := Lib.hid (CX.out rfl)
    clear CX
    go_enter Tryd.func39, Tryd.ntmps39
    go_wp2_with fail
    refine (C1.out _ (HS.out.keep s0.2.2.2.2.2.2.2.2.2.2.2.2) (HT.out.keep s0.2.2.2.2.2.2.2.2.2.2.2.2) (HB.out.keep s0.2.2.2.2.2.2.2.2.2.2.2.2)).mono ?_
    rintro e1 w1 ⟨rfl, k1⟩
    have s1 := keepq12 k1 s0
    clear s0 k1
    go_wp2_with fail
    refine (CX2.out _).mono ?_
    rintro e2 w2 ⟨rfl, k2⟩
    go_wp2_with fail
    go_ret
    exact ⟨rfl, s1.2.2.2.2.2.2.2.2.2.2.2.2.trans k2⟩

set_option maxRecDepth 100000 in
set_option maxHeartbeats 4000000 in
theorem stepCostP_any (At Ak : Option Addr) (nt nk ct ck : Nat) (l : List Ter) (m : List Knd) (a b c d e W H : Int) (x r y : Value) (lt lr ld : List Int) (kx tw i dd : Int) (w : World) (hs : SpC w) (ht : Tab w) (hB : BrdAt w At Ak nt nk l m x r y lt lr ld) :
    Calls Tryd.prog 14 #[bv (.slice At nt ct) (.slice Ak nk ck) a b c d e W H x r y, .int .i64 kx, .int .i64 tw, .int .i64 i, .int .i64 dd] w fun e' w' => e' = .returned (ib ((((brdOk ⟨l, m, a, b, c, d, e⟩ W H lt lr ld && inB kx nk && onI W H i) && spB 0 2 tw) && spB 0 5 dd) && decide (stp l lt lr ld W H b c kx.toNat tw i dd ≠ 0)) (stp l lt lr ld W H b c kx.toNat tw i dd)) ∧ Kp w w' := by
  have KA : Kp w (w.alloc (.cells #[.slice At nt ct, .slice Ak nk ck, .int .i64 a, .int .i64 b, .int .i64 c, .int .i64 d, .int .i64 e, .int .i64 W, .int .i64 H, x, r, y] 42)) := (Kp.refl w).alloc _
  have s0 : cb12 (w.alloc (.cells #[.slice At nt ct, .slice Ak nk ck, .int .i64 a, .int .i64 b, .int .i64 c, .int .i64 d, .int .i64 e, .int .i64 W, .int .i64 H, x, r, y] 42)) (w.heap.size) (.slice At nt ct) (.slice Ak nk ck) (.int .i64 a) (.int .i64 b) (.int .i64 c) (.int .i64 d) (.int .i64 e) (.int .i64 W) (.int .i64 H) (x) (r) (y) (Kp w (w.alloc (.cells #[.slice At nt ct, .slice Ak nk ck, .int .i64 a, .int .i64 b, .int .i64 c, .int .i64 d, .int .i64 e, .int .i64 W, .int .i64 H, x, r, y] 42))) := ⟨by simp [go_sem], by simp [go_sem], by simp [go_sem], by simp [go_sem], by simp [go_sem], by simp [go_sem], by simp [go_sem], by simp [go_sem], by simp [go_sem], by simp [go_sem], by simp [go_sem], by simp [go_sem], KA⟩
  have HB := Lib.hid hB
  have HT := Lib.hid ht
  have HS := Lib.hid hs
  clear hB ht hs
  have CA := Lib.hid (fun (w : World) hs ht hB => isMoverAt_any At Ak nt nk ct ck l m a b c d e W H x r y lt lr ld kx tw i w hs ht hB)
  cases hg0 : ((brdOk ⟨l, m, a, b, c, d, e⟩ W H lt lr ld && inB kx nk && onI W H i) && spB 0 2 tw)
  · rw [hg0] at CA
    clear hg0
    repeat (first | rw [Bool.true_and] | rw [Bool.and_true] | rw [Bool.false_and] | rw [Bool.and_false])
    go_enter Tryd.func14, Tryd.ntmps14
    go_wp2_with fail
    refine (CA.out _ (HS.out.keep s0.2.2.2.2.2.2.2.2.2.2.2.2) (HT.out.keep s0.2.2.2.2.2.2.2.2.2.2.2.2) (HB.out.keep s0.2.2.2.2.2.2.2.2.2.2.2.2)).mono ?_
    rintro e1 w1 ⟨rfl, k1⟩
    have s1 := keepq12 k1 s0
    clear s0 k1
    go_wp2_with fail
    go_ret2
    exact ⟨rfl, s1.2.2.2.2.2.2.2.2.2.2.2.2⟩
  · rw [hg0] at CA
    have hok : brdOk ⟨l, m, a, b, c, d, e⟩ W H lt lr ld = true := by
      simp only [Bool.and_eq_true] at hg0
      exact hg0.1.1.1
    have hkx : inB kx nk = true := by
      simp only [Bool.and_eq_true] at hg0
      exact hg0.1.1.2
    have hi : onI W H i = true := by
      simp only [Bool.and_eq_true] at hg0
      exact hg0.1.2
    have hw : tw = 0 ∨ tw = 1 ∨ tw = 2 := by
      simp only [Bool.and_eq_true] at hg0
      exact wth_true hg0.2
    clear hg0
    obtain ⟨k, rfl, hk0⟩ := inB_at hkx
    have hk : k < m.length := by have := HB.out.R.rk.1; omega
    clear hkx
    have CD : Hid (∀ w, Calls Tryd.prog 40 #[.int .i64 dd] w fun e w' => e = .returned (.bool (spB 0 5 dd)) ∧ w = w') := Lib.hid fun w => isDirection_any dd w
    cases hg1 : spB 0 5 dd
    · rw [hg1] at CD
      clear hg1 hok hi hw hk0 hk
      repeat (first | rw [Bool.true_and] | rw [Bool.and_true] | rw [Bool.false_and] | rw [Bool.and_false])
      go_enter Tryd.func14, Tryd.ntmps14
      go_wp2_with fail
      refine (CA.out _ (HS.out.keep s0.2.2.2.2.2.2.2.2.2.2.2.2) (HT.out.keep s0.2.2.2.2.2.2.2.2.2.2.2.2) (HB.out.keep s0.2.2.2.2.2.2.2.2.2.2.2.2)).mono ?_
      rintro e1 w1 ⟨rfl, k1⟩
      have s1 := keepq12 k1 s0
      clear s0 k1
      go_wp2_with fail
      refine (CD.out _).mono ?_
      rintro e2 w2 ⟨rfl, rfl⟩
      have s2 := s1
      clear s1
      go_wp2_with fail
      go_ret2
      exact ⟨rfl, s2.2.2.2.2.2.2.2.2.2.2.2.2⟩
    · rw [hg1] at CD
      have hd : 0 ≤ dd ∧ dd ≤ 5 := by simpa [spB] using hg1
      clear hg1
      rw [show ((k : Int)).toNat = k from rfl]
      have CS := Lib.hid (fun (w : World) ht hB => stepFrom_any At Ak nt nk ct ck l m a b c d e W H x r y lt lr ld k tw i dd w ht hB hok hk hw)
      generalize stp l lt lr ld W H b c k tw i dd = Z at *
      generalize nbI W i dd = J at *
      clear hok hi hw hk0 hk hd
      repeat (first | rw [Bool.true_and] | rw [Bool.and_true] | rw [Bool.false_and] | rw [Bool.and_false])
      generalize decide (Z ≠ 0) = B at *
      go_enter Tryd.func14, Tryd.ntmps14
      go_wp2_with fail
      refine (CA.out _ (HS.out.keep s0.2.2.2.2.2.2.2.2.2.2.2.2) (HT.out.keep s0.2.2.2.2.2.2.2.2.2.2.2.2) (HB.out.keep s0.2.2.2.2.2.2.2.2.2.2.2.2)).mono ?_
      rintro e1 w1 ⟨rfl, k1⟩
      have s1 := keepq12 k1 s0
      clear s0 k1
      go_wp2_with fail
      refine (CD.out _).mono ?_
      rintro e2 w2 ⟨rfl, rfl⟩
      have s2 := s1
      clear s1
      go_wp2_with fail
      refine (CS.out _ (HT.out.keep s2.2.2.2.2.2.2.2.2.2.2.2.2) (HB.out.keep s2.2.2.2.2.2.2.2.2.2.2.2.2)).mono ?_
      rintro e9 w9 ⟨rfl, k9⟩
      go_wp2_with fail
      go_ret2
      exact ⟨rfl, s2.2.2.2.2.2.2.2.2.2.2.2.2.trans k9⟩

set_option maxRecDepth 100000 in
set_option maxHeartbeats 4000000 in
theorem specStepCost_any (At Ak : Option Addr) (nt nk ct ck : Nat) (l : List Ter) (m : List Knd) (a b c d e W H : Int) (x r y : Value) (lt lr ld : List Int) (kx tw i dd : Int) (w : World) (hB : BrdAt w At Ak nt nk l m x r y lt lr ld) :
    Calls Tryd.prog 12 #[bv (.slice At nt ct) (.slice Ak nk ck) a b c d e W H x r y, .int .i64 kx, .int .i64 tw, .int .i64 i, .int .i64 dd] w fun e' w' => e' = .returned (ib ((((brdOk ⟨l, m, a, b, c, d, e⟩ W H lt lr ld && inB kx nk && onI W H i) && spB 0 2 tw) && spB 0 5 dd) && decide (stp l lt lr ld W H b c kx.toNat tw i dd ≠ 0)) (stp l lt lr ld W H b c kx.toNat tw i dd)) ∧ Kp w w' := by
  have KA : Kp w (w.alloc (.cells #[.slice At nt ct, .slice Ak nk ck, .int .i64 a, .int .i64 b, .int .i64 c, .int .i64 d, .int .i64 e, .int .i64 W, .int .i64 H, x, r, y] 42)) := (Kp.refl w).alloc _
  have s0 : cb12 (w.alloc (.cells #[.slice At nt ct, .slice Ak nk ck, .int .i64 a, .int .i64 b, .int .i64 c, .int .i64 d, .int .i64 e, .int .i64 W, .int .i64 H, x, r, y] 42)) (w.heap.size) (.slice At nt ct) (.slice Ak nk ck) (.int .i64 a) (.int .i64 b) (.int .i64 c) (.int .i64 d) (.int .i64 e) (.int .i64 W) (.int .i64 H) (x) (r) (y) (Kp w (w.alloc (.cells #[.slice At nt ct, .slice Ak nk ck, .int .i64 a, .int .i64 b, .int .i64 c, .int .i64 d, .int .i64 e, .int .i64 W, .int .i64 H, x, r, y] 42))) := ⟨by simp [go_sem], by simp [go_sem], by simp [go_sem], by simp [go_sem], by simp [go_sem], by simp [go_sem], by simp [go_sem], by simp [go_sem], by simp [go_sem], by simp [go_sem], by simp [go_sem], by simp [go_sem], KA⟩
  have HB := Lib.hid hB
  clear hB
  have CA := Lib.hid (fun (w : World) hB => csInput_any At Ak nt nk ct ck l m a b c d e W H x r y lt lr ld kx tw i w hB)
  cases hg0 : ((brdOk ⟨l, m, a, b, c, d, e⟩ W H lt lr ld && inB kx nk && onI W H i) && spB 0 2 tw)
  · rw [hg0] at CA
    clear hg0
    repeat (first | rw [Bool.true_and] | rw [Bool.and_true] | rw [Bool.false_and] | rw [Bool.and_false])
    go_enter Tryd.func12, Tryd.ntmps12
    go_wp2_with fail
    refine (CA.out _ (HB.out.keep s0.2.2.2.2.2.2.2.2.2.2.2.2)).mono ?_
    rintro e1 w1 ⟨rfl, k1⟩
    have s1 := keepq12 k1 s0
    clear s0 k1
    go_wp2_with fail
    go_ret2
    exact ⟨rfl, s1.2.2.2.2.2.2.2.2.2.2.2.2⟩
  · rw [hg0] at CA
    have hok : brdOk ⟨l, m, a, b, c, d, e⟩ W H lt lr ld = true := by
      simp only [Bool.and_eq_true] at hg0
      exact hg0.1.1.1
    have hkx : inB kx nk = true := by
      simp only [Bool.and_eq_true] at hg0
      exact hg0.1.1.2
    have hi : onI W H i = true := by
      simp only [Bool.and_eq_true] at hg0
      exact hg0.1.2
    have hw : tw = 0 ∨ tw = 1 ∨ tw = 2 := by
      simp only [Bool.and_eq_true] at hg0
      exact wth_true hg0.2
    clear hg0
    obtain ⟨k, rfl, hk0⟩ := inB_at hkx
    have hk : k < m.length := by have := HB.out.R.rk.1; omega
    clear hkx
    have CD := Lib.hid (fun (w : World) => l1In_sp dd 0 5 w)
    cases hg1 : spB 0 5 dd
    · rw [hg1] at CD
      clear hg1 hok hi hw hk0 hk
      repeat (first | rw [Bool.true_and] | rw [Bool.and_true] | rw [Bool.false_and] | rw [Bool.and_false])
      go_enter Tryd.func12, Tryd.ntmps12
      go_wp2_with fail
      refine (CA.out _ (HB.out.keep s0.2.2.2.2.2.2.2.2.2.2.2.2)).mono ?_
      rintro e1 w1 ⟨rfl, k1⟩
      have s1 := keepq12 k1 s0
      clear s0 k1
      go_wp2_with fail
      refine (CD.out _).mono ?_
      rintro e2 w2 ⟨rfl, rfl⟩
      have s2 := s1
      clear s1
      go_wp2_with fail
      go_ret2
      exact ⟨rfl, s2.2.2.2.2.2.2.2.2.2.2.2.2⟩
    · rw [hg1] at CD
      have hd : 0 ≤ dd ∧ dd ≤ 5 := by simpa [spB] using hg1
      clear hg1
      rw [show ((k : Int)).toNat = k from rfl]
      have CS := Lib.hid (fun (w : World) hB => cStep_any At Ak nt nk ct ck l m a b c d e W H x r y lt lr ld k tw i dd w hB hok hk hw hi hd)
      have hb := stp_bd (l := l) (a := a) (d := d) (e := e) (lt := lt) (lr := lr) (ld := ld) hok hk hw i dd
      generalize stp l lt lr ld W H b c k tw i dd = Z at *
      clear hok hi hw hk0 hk hd
      repeat (first | rw [Bool.true_and] | rw [Bool.and_true] | rw [Bool.false_and] | rw [Bool.and_false])
      by_cases hz : Z = 0
      · subst hz
        rw [show decide ((0 : Int) ≠ 0) = false from rfl]
        clear hb
        go_enter Tryd.func12, Tryd.ntmps12
        go_wp2_with fail
        refine (CA.out _ (HB.out.keep s0.2.2.2.2.2.2.2.2.2.2.2.2)).mono ?_
        rintro e1 w1 ⟨rfl, k1⟩
        have s1 := keepq12 k1 s0
        clear s0 k1
        go_wp2_with fail
        refine (CD.out _).mono ?_
        rintro e2 w2 ⟨rfl, rfl⟩
        have s2 := s1
        clear s1
        go_wp2_with fail
        refine (CS.out _ (HB.out.keep s2.2.2.2.2.2.2.2.2.2.2.2.2)).mono ?_
        rintro e9 w9 ⟨rfl, k9⟩
        go_wp2_with fail
        go_ret2
        exact ⟨rfl, s2.2.2.2.2.2.2.2.2.2.2.2.2.trans k9⟩
      · have hz2 : 0 < Z := by omega
        rw [decide_eq_true hz]
        clear hb hz
        go_enter Tryd.func12, Tryd.ntmps12
        go_wp2_with fail
        refine (CA.out _ (HB.out.keep s0.2.2.2.2.2.2.2.2.2.2.2.2)).mono ?_
        rintro e1 w1 ⟨rfl, k1⟩
        have s1 := keepq12 k1 s0
        clear s0 k1
        go_wp2_with fail
        refine (CD.out _).mono ?_
        rintro e2 w2 ⟨rfl, rfl⟩
        have s2 := s1
        clear s1
        go_wp2_with fail
        refine (CS.out _ (HB.out.keep s2.2.2.2.2.2.2.2.2.2.2.2.2)).mono ?_
        rintro e9 w9 ⟨rfl, k9⟩
        go_wp2_with fail
        go_ret2
        exact ⟨rfl, s2.2.2.2.2.2.2.2.2.2.2.2.2.trans k9⟩





def lenOf : Value → Nat
  | .slice _ n _ => n
  | _ => 0
theorem rd_take {w : World} {A : Option Addr} {n c : Nat} {L : List Int} (h : RdI w (.slice A n c) L) (q : Nat) (hq : q ≤ L.length) : RdI w (.slice A q c) (L.take q) := by
  obtain ⟨A', c', e, h⟩ := h
  obtain ⟨rfl, rfl, rfl⟩ : A = A' ∧ n = L.length ∧ c = c' := by simpa using e
  have hl : (L.take q).length = q := by rw [List.length_take]; omega
  refine ⟨A, c, by rw [hl], fun h0 => ?_⟩
  obtain ⟨g, off, rfl, hc⟩ := h (by omega)
  refine ⟨g, off, rfl, fun i y hy => ?_⟩
  rw [List.getElem?_take] at hy
  split at hy
  · exact hc i y hy
  · simp at hy



end Go.Proofs.YtngifnnpimfimaaDoor
