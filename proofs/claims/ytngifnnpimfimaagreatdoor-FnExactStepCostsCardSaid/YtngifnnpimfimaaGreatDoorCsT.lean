/-
  Chapter 9's functions on steps, both sides: StepCost, StepCosts, PathHexes, PathCost, StepsWithin. Nothing that was there is changed. The named variables hold what the program's text lays.
-/
import Derived.Test.YtngifnnpimfimaaGreatDoorCsQ
import Derived.Test.YtngifnnpimfimaaGreatDoorCsS
import Derived.Test.YtngifnnpimfimaaGreatDoorTabH
import Derived.StillTailTactics
import Derived.Deep.Cut
import Derived.Maps.AppendAt
import Derived.Test.YtngifnnpimfimaaGreatDoorQa
import Derived.Test.YtngifnnpimfimaaGreatDoorQa
namespace Go.Proofs.YtngifnnpimfimaaGreatDoor
open Go.RowKit


set_option maxRecDepth 100000 in
set_option maxHeartbeats 4000000 in
theorem isMoverOn_any (At Ak : Option Addr) (nt nk ct ck : Nat) (l : List Ter) (m : List Knd) (a b c d e W H : Int) (x r y : Value) (lt lr ld : List Int) (kx tw : Int) (w : World) (hs : SpC w) (ht : Tab w) (hB : BrdAt w At Ak nt nk l m x r y lt lr ld) :
    Calls Tryz.prog 47 #[bv (.slice At nt ct) (.slice Ak nk ck) a b c d e W H x r y, .int .i64 kx, .int .i64 tw] w fun e' w' => e' = .returned (.bool ((brdOk ⟨l, m, a, b, c, d, e⟩ W H lt lr ld && inB kx nk) && spB 0 2 tw)) ∧ Kp w w' := by
  have KA : Kp w (w.alloc (.cells #[.slice At nt ct, .slice Ak nk ck, .int .i64 a, .int .i64 b, .int .i64 c, .int .i64 d, .int .i64 e, .int .i64 W, .int .i64 H, x, r, y] 40)) := (Kp.refl w).alloc _
  have s0 : cb12 (w.alloc (.cells #[.slice At nt ct, .slice Ak nk ck, .int .i64 a, .int .i64 b, .int .i64 c, .int .i64 d, .int .i64 e, .int .i64 W, .int .i64 H, x, r, y] 40)) (w.heap.size) (.slice At nt ct) (.slice Ak nk ck) (.int .i64 a) (.int .i64 b) (.int .i64 c) (.int .i64 d) (.int .i64 e) (.int .i64 W) (.int .i64 H) (x) (r) (y) (Kp w (w.alloc (.cells #[.slice At nt ct, .slice Ak nk ck, .int .i64 a, .int .i64 b, .int .i64 c, .int .i64 d, .int .i64 e, .int .i64 W, .int .i64 H, x, r, y] 40))) := ⟨by simp [go_sem], by simp [go_sem], by simp [go_sem], by simp [go_sem], by simp [go_sem], by simp [go_sem], by simp [go_sem], by simp [go_sem], by simp [go_sem], by simp [go_sem], by simp [go_sem], by simp [go_sem], KA⟩
  have HB := Lib.hid hB
  have HT := Lib.hid ht
  have HS := Lib.hid hs
  have C1 := Lib.hid (fun (w : World) hs ht hB => isKindOn_any At Ak nt nk ct ck l m a b c d e W H x r y lt lr ld kx w hs ht hB)
  have C2 := Lib.hid (fun (w : World) => has_any 0 2 tw w)
  generalize (brdOk ⟨l, m, a, b, c, d, e⟩ W H lt lr ld && inB kx nk) = P at C1 ⊢
  generalize spB 0 2 tw = Q at C2 ⊢
  clear hB ht hs
  cases P
  · rw [Bool.false_and]
    clear C2
    go_enter Tryz.func47, Tryz.ntmps47
    go_wp2_with fail
    refine (C1.out _ (HS.out.sp.keep s0.2.2.2.2.2.2.2.2.2.2.2.2) (HT.out.keep s0.2.2.2.2.2.2.2.2.2.2.2.2) (HB.out.keep s0.2.2.2.2.2.2.2.2.2.2.2.2)).mono ?_
    rintro e1 w1 ⟨rfl, k1⟩
    go_wp2_with fail
    go_ret
    exact ⟨rfl, s0.2.2.2.2.2.2.2.2.2.2.2.2.trans k1⟩
  · rw [Bool.true_and]
    go_enter Tryz.func47, Tryz.ntmps47
    go_wp2_with fail
    refine (C1.out _ (HS.out.sp.keep s0.2.2.2.2.2.2.2.2.2.2.2.2) (HT.out.keep s0.2.2.2.2.2.2.2.2.2.2.2.2) (HB.out.keep s0.2.2.2.2.2.2.2.2.2.2.2.2)).mono ?_
    rintro e1 w1 ⟨rfl, k1⟩
    obtain ⟨g1, g2⟩ := (s0.2.2.2.2.2.2.2.2.2.2.2.2.trans k1).two HS.out.wt
    go_wp2_with fail
    refine (C2.out _).mono ?_
    rintro e2 w2 ⟨rfl, k2⟩
    go_wp2_with fail
    go_ret
    exact ⟨rfl, (s0.2.2.2.2.2.2.2.2.2.2.2.2.trans k1).trans k2⟩

theorem and_swap (p q t : Bool) : ((p && t) && q) = ((p && q) && t) := by cases p <;> cases q <;> cases t <;> rfl
set_option maxRecDepth 100000 in
set_option maxHeartbeats 4000000 in
theorem isMoverAt_any (At Ak : Option Addr) (nt nk ct ck : Nat) (l : List Ter) (m : List Knd) (a b c d e W H : Int) (x r y : Value) (lt lr ld : List Int) (kx tw i : Int) (w : World) (hs : SpC w) (ht : Tab w) (hB : BrdAt w At Ak nt nk l m x r y lt lr ld) :
    Calls Tryz.prog 26 #[bv (.slice At nt ct) (.slice Ak nk ck) a b c d e W H x r y, .int .i64 kx, .int .i64 tw, .int .i64 i] w fun e' w' => e' = .returned (.bool ((brdOk ⟨l, m, a, b, c, d, e⟩ W H lt lr ld && inB kx nk && onI W H i) && spB 0 2 tw)) ∧ Kp w w' := by
  have KA : Kp w (w.alloc (.cells #[.slice At nt ct, .slice Ak nk ck, .int .i64 a, .int .i64 b, .int .i64 c, .int .i64 d, .int .i64 e, .int .i64 W, .int .i64 H, x, r, y] 40)) := (Kp.refl w).alloc _
  have s0 : cb12 (w.alloc (.cells #[.slice At nt ct, .slice Ak nk ck, .int .i64 a, .int .i64 b, .int .i64 c, .int .i64 d, .int .i64 e, .int .i64 W, .int .i64 H, x, r, y] 40)) (w.heap.size) (.slice At nt ct) (.slice Ak nk ck) (.int .i64 a) (.int .i64 b) (.int .i64 c) (.int .i64 d) (.int .i64 e) (.int .i64 W) (.int .i64 H) (x) (r) (y) (Kp w (w.alloc (.cells #[.slice At nt ct, .slice Ak nk ck, .int .i64 a, .int .i64 b, .int .i64 c, .int .i64 d, .int .i64 e, .int .i64 W, .int .i64 H, x, r, y] 40))) := ⟨by simp [go_sem], by simp [go_sem], by simp [go_sem], by simp [go_sem], by simp [go_sem], by simp [go_sem], by simp [go_sem], by simp [go_sem], by simp [go_sem], by simp [go_sem], by simp [go_sem], by simp [go_sem], KA⟩
  have HB := Lib.hid hB
  have HT := Lib.hid ht
  have HS := Lib.hid hs
  have C1 := Lib.hid (fun (w : World) hs ht hB => isMoverOn_any At Ak nt nk ct ck l m a b c d e W H x r y lt lr ld kx tw w hs ht hB)
  have CX : Hid (((brdOk ⟨l, m, a, b, c, d, e⟩ W H lt lr ld && inB kx nk) && spB 0 2 tw) = true → ∀ w, Calls Tryz.prog 48 #[mp W H x r y, .int .i64 i] w fun e w' => e = .returned (.bool (onI W H i)) ∧ Kp w w') := Lib.hid fun h1 w => by
    simp only [Bool.and_eq_true] at h1
    obtain ⟨p1, p2, p3, p4⟩ := mapOk_side (brdOk_map h1.1.1)
    exact isIndex_any W H x r y i w p1 p2 p3 p4
  have HE : Hid (((brdOk ⟨l, m, a, b, c, d, e⟩ W H lt lr ld && inB kx nk && onI W H i) && spB 0 2 tw) = (((brdOk ⟨l, m, a, b, c, d, e⟩ W H lt lr ld && inB kx nk) && spB 0 2 tw) && onI W H i)) := Lib.hid (and_swap _ _ _).symm
  rw [HE.out]
  generalize ((brdOk ⟨l, m, a, b, c, d, e⟩ W H lt lr ld && inB kx nk) && spB 0 2 tw) = P at C1 CX ⊢
  generalize onI W H i = Q at CX ⊢
  clear hB ht hs HE
  cases P
  · rw [Bool.false_and]
    clear CX
    go_enter Tryz.func26, Tryz.ntmps26
    go_wp2_with fail
    refine (C1.out _ (HS.out.keep s0.2.2.2.2.2.2.2.2.2.2.2.2) (HT.out.keep s0.2.2.2.2.2.2.2.2.2.2.2.2) (HB.out.keep s0.2.2.2.2.2.2.2.2.2.2.2.2)).mono ?_
    rintro e1 w1 ⟨rfl, k1⟩
    go_wp2_with fail
    go_ret
    exact ⟨rfl, s0.2.2.2.2.2.2.2.2.2.2.2.2.trans k1⟩
  · rw [Bool.true_and]
    have CX2 := Lib.hid (CX.out rfl)
    clear CX
    go_enter Tryz.func26, Tryz.ntmps26
    go_wp2_with fail
    refine (C1.out _ (HS.out.keep s0.2.2.2.2.2.2.2.2.2.2.2.2) (HT.out.keep s0.2.2.2.2.2.2.2.2.2.2.2.2) (HB.out.keep s0.2.2.2.2.2.2.2.2.2.2.2.2)).mono ?_
    rintro e1 w1 ⟨rfl, k1⟩
    have s1 := keepq12 k1 s0
    clear s0 k1
    go_wp2_with fail
    refine (CX2.out _).mono ?_
    rintro e2 w2 ⟨rfl, k2⟩
    go_wp2_with fail
    go_ret
    exact ⟨rfl, s1.2.2.2.2.2.2.2.2.2.2.2.2.trans k2⟩



set_option maxRecDepth 100000 in
set_option maxHeartbeats 4000000 in
theorem stepCostsP_any (At Ak : Option Addr) (nt nk ct ck : Nat) (l : List Ter) (m : List Knd) (a b c d e W H : Int) (x r y : Value) (lt lr ld : List Int) (kx tw i : Int) (w : World) (hs : SpC w) (ht : Tab w) (hB : BrdAt w At Ak nt nk l m x r y lt lr ld) :
    Calls Tryz.prog 9 #[bv (.slice At nt ct) (.slice Ak nk ck) a b c d e W H x r y, .int .i64 kx, .int .i64 tw, .int .i64 i] w (ListPostI (((brdOk ⟨l, m, a, b, c, d, e⟩ W H lt lr ld && inB kx nk && onI W H i) && spB 0 2 tw)) (sixN (stp l lt lr ld W H b c kx.toNat tw i) 6) w) := by
  have KA : Kp w (w.alloc (.cells #[.slice At nt ct, .slice Ak nk ck, .int .i64 a, .int .i64 b, .int .i64 c, .int .i64 d, .int .i64 e, .int .i64 W, .int .i64 H, x, r, y] 40)) := (Kp.refl w).alloc _
  have s0 : cb12 (w.alloc (.cells #[.slice At nt ct, .slice Ak nk ck, .int .i64 a, .int .i64 b, .int .i64 c, .int .i64 d, .int .i64 e, .int .i64 W, .int .i64 H, x, r, y] 40)) (w.heap.size) (.slice At nt ct) (.slice Ak nk ck) (.int .i64 a) (.int .i64 b) (.int .i64 c) (.int .i64 d) (.int .i64 e) (.int .i64 W) (.int .i64 H) (x) (r) (y) (Kp w (w.alloc (.cells #[.slice At nt ct, .slice Ak nk ck, .int .i64 a, .int .i64 b, .int .i64 c, .int .i64 d, .int .i64 e, .int .i64 W, .int .i64 H, x, r, y] 40))) := ⟨by simp [go_sem], by simp [go_sem], by simp [go_sem], by simp [go_sem], by simp [go_sem], by simp [go_sem], by simp [go_sem], by simp [go_sem], by simp [go_sem], by simp [go_sem], by simp [go_sem], by simp [go_sem], KA⟩
  have HB := Lib.hid hB
  have HT := Lib.hid ht
  have HS := Lib.hid hs
  clear hB ht hs
  have CA := Lib.hid (fun (w : World) hs ht hB => isMoverAt_any At Ak nt nk ct ck l m a b c d e W H x r y lt lr ld kx tw i w hs ht hB)
  cases hg0 : ((brdOk ⟨l, m, a, b, c, d, e⟩ W H lt lr ld && inB kx nk && onI W H i) && spB 0 2 tw)
  · rw [hg0] at CA
    clear hg0
    repeat (first | rw [Bool.true_and] | rw [Bool.and_true] | rw [Bool.false_and] | rw [Bool.and_false])
    go_enter Tryz.func9, Tryz.ntmps9
    go_wp2_with fail
    refine (CA.out _ (HS.out.keep s0.2.2.2.2.2.2.2.2.2.2.2.2) (HT.out.keep s0.2.2.2.2.2.2.2.2.2.2.2.2) (HB.out.keep s0.2.2.2.2.2.2.2.2.2.2.2.2)).mono ?_
    rintro e1 w1 ⟨rfl, k1⟩
    have s1 := keepq12 k1 s0
    clear s0 k1
    go_wp2_with fail
    go_ret2
    exact ListPostI.no (s1.2.2.2.2.2.2.2.2.2.2.2.2)
  · rw [hg0] at CA
    have hok : brdOk ⟨l, m, a, b, c, d, e⟩ W H lt lr ld = true := by
      simp only [Bool.and_eq_true] at hg0
      exact hg0.1.1.1
    have hkx : inB kx nk = true := by
      simp only [Bool.and_eq_true] at hg0
      exact hg0.1.1.2
    have hi : onI W H i = true := by
      simp only [Bool.and_eq_true] at hg0
      exact hg0.1.2
    have hw : tw = 0 ∨ tw = 1 ∨ tw = 2 := by
      simp only [Bool.and_eq_true] at hg0
      exact wth_true hg0.2
    clear hg0
    obtain ⟨k, rfl, hk0⟩ := inB_at hkx
    have hk : k < m.length := by have := HB.out.R.rk.1; omega
    clear hkx
    rw [show ((k : Int)).toNat = k from rfl]
    have CS := Lib.hid (fun (w : World) ht hB => stepCosts_any At Ak nt nk ct ck l m a b c d e W H x r y lt lr ld k tw i w ht hB hok hk hw)
    generalize sixN (stp l lt lr ld W H b c k tw i) 6 = L at *
    clear hok hi hw hk0 hk
    go_enter Tryz.func9, Tryz.ntmps9
    go_wp2_with fail
    refine (CA.out _ (HS.out.keep s0.2.2.2.2.2.2.2.2.2.2.2.2) (HT.out.keep s0.2.2.2.2.2.2.2.2.2.2.2.2) (HB.out.keep s0.2.2.2.2.2.2.2.2.2.2.2.2)).mono ?_
    rintro e1 w1 ⟨rfl, k1⟩
    have s1 := keepq12 k1 s0
    clear s0 k1
    go_wp2_with fail
    refine (CS.out _ (HT.out.keep s1.2.2.2.2.2.2.2.2.2.2.2.2) (HB.out.keep s1.2.2.2.2.2.2.2.2.2.2.2.2)).mono ?_
    rintro e9 w9 ⟨v9, rfl, o9, k9⟩
    have O9 := Lib.hid (o9.base (b := w.heap.size) (by have := s1.2.2.2.2.2.2.2.2.2.2.2.2.size; omega))
    clear o9
    go_wp2_with fail
    go_ret2
    exact ⟨_, rfl, O9.out, s1.2.2.2.2.2.2.2.2.2.2.2.2.trans k9⟩

set_option maxRecDepth 100000 in
set_option maxHeartbeats 4000000 in
theorem specStepCosts_any (At Ak : Option Addr) (nt nk ct ck : Nat) (l : List Ter) (m : List Knd) (a b c d e W H : Int) (x r y : Value) (lt lr ld : List Int) (kx tw i : Int) (w : World) (hB : BrdAt w At Ak nt nk l m x r y lt lr ld) :
    Calls Tryz.prog 7 #[bv (.slice At nt ct) (.slice Ak nk ck) a b c d e W H x r y, .int .i64 kx, .int .i64 tw, .int .i64 i] w (ListPostI (((brdOk ⟨l, m, a, b, c, d, e⟩ W H lt lr ld && inB kx nk && onI W H i) && spB 0 2 tw)) (sixN (stp l lt lr ld W H b c kx.toNat tw i) 6) w) := by
  have KA : Kp w (w.alloc (.cells #[.slice At nt ct, .slice Ak nk ck, .int .i64 a, .int .i64 b, .int .i64 c, .int .i64 d, .int .i64 e, .int .i64 W, .int .i64 H, x, r, y] 40)) := (Kp.refl w).alloc _
  have s0 : cb12 (w.alloc (.cells #[.slice At nt ct, .slice Ak nk ck, .int .i64 a, .int .i64 b, .int .i64 c, .int .i64 d, .int .i64 e, .int .i64 W, .int .i64 H, x, r, y] 40)) (w.heap.size) (.slice At nt ct) (.slice Ak nk ck) (.int .i64 a) (.int .i64 b) (.int .i64 c) (.int .i64 d) (.int .i64 e) (.int .i64 W) (.int .i64 H) (x) (r) (y) (Kp w (w.alloc (.cells #[.slice At nt ct, .slice Ak nk ck, .int .i64 a, .int .i64 b, .int .i64 c, .int .i64 d, .int .i64 e, .int .i64 W, .int .i64 H, x, r, y] 40))) := ⟨by simp [go_sem], by simp [go_sem], by simp [go_sem], by simp [go_sem], by simp [go_sem], by simp [go_sem], by simp [go_sem], by simp [go_sem], by simp [go_sem], by simp [go_sem], by simp [go_sem], by simp [go_sem], KA⟩
  have HB := Lib.hid hB
  clear hB
  have CA := Lib.hid (fun (w : World) hB => csInput_any At Ak nt nk ct ck l m a b c d e W H x r y lt lr ld kx tw i w hB)
  cases hg0 : ((brdOk ⟨l, m, a, b, c, d, e⟩ W H lt lr ld && inB kx nk && onI W H i) && spB 0 2 tw)
  · rw [hg0] at CA
    clear hg0
    repeat (first | rw [Bool.true_and] | rw [Bool.and_true] | rw [Bool.false_and] | rw [Bool.and_false])
    go_enter Tryz.func7, Tryz.ntmps7
    go_wp2_with fail
    refine (CA.out _ (HB.out.keep s0.2.2.2.2.2.2.2.2.2.2.2.2)).mono ?_
    rintro e1 w1 ⟨rfl, k1⟩
    have s1 := keepq12 k1 s0
    clear s0 k1
    go_wp2_with fail
    go_ret2
    exact ListPostI.no (s1.2.2.2.2.2.2.2.2.2.2.2.2)
  · rw [hg0] at CA
    have hok : brdOk ⟨l, m, a, b, c, d, e⟩ W H lt lr ld = true := by
      simp only [Bool.and_eq_true] at hg0
      exact hg0.1.1.1
    have hkx : inB kx nk = true := by
      simp only [Bool.and_eq_true] at hg0
      exact hg0.1.1.2
    have hi : onI W H i = true := by
      simp only [Bool.and_eq_true] at hg0
      exact hg0.1.2
    have hw : tw = 0 ∨ tw = 1 ∨ tw = 2 := by
      simp only [Bool.and_eq_true] at hg0
      exact wth_true hg0.2
    clear hg0
    obtain ⟨k, rfl, hk0⟩ := inB_at hkx
    have hk : k < m.length := by have := HB.out.R.rk.1; omega
    clear hkx
    rw [show ((k : Int)).toNat = k from rfl]
    have CS := Lib.hid (fun (w : World) hB => csAll_any At Ak nt nk ct ck l m a b c d e W H x r y lt lr ld k tw i w hB hok hk hw hi)
    generalize sixN (stp l lt lr ld W H b c k tw i) 6 = L at *
    clear hok hi hw hk0 hk
    go_enter Tryz.func7, Tryz.ntmps7
    go_wp2_with fail
    refine (CA.out _ (HB.out.keep s0.2.2.2.2.2.2.2.2.2.2.2.2)).mono ?_
    rintro e1 w1 ⟨rfl, k1⟩
    have s1 := keepq12 k1 s0
    clear s0 k1
    go_wp2_with fail
    refine (CS.out _ (HB.out.keep s1.2.2.2.2.2.2.2.2.2.2.2.2)).mono ?_
    rintro e9 w9 ⟨v9, rfl, o9, k9⟩
    have O9 := Lib.hid (o9.base (b := w.heap.size) (by have := s1.2.2.2.2.2.2.2.2.2.2.2.2.size; omega))
    clear o9
    go_wp2_with fail
    go_ret2
    exact ⟨_, rfl, O9.out, s1.2.2.2.2.2.2.2.2.2.2.2.2.trans k9⟩

set_option maxRecDepth 100000 in
set_option maxHeartbeats 4000000 in
theorem pathCostP_any (At Ak : Option Addr) (nt nk ct ck : Nat) (l : List Ter) (m : List Knd) (a b c d e W H : Int) (x r y : Value) (lt lr ld : List Int) (kx tw i : Int) (v : Value) (p : List Int) (w : World) (hs : SpC w) (ht : Tab w) (hB : BrdAt w At Ak nt nk l m x r y lt lr ld) (hp : RdI w v p) (hpl : p.length ≤ 1048576) :
    Calls Tryz.prog 17 #[bv (.slice At nt ct) (.slice Ak nk ck) a b c d e W H x r y, .int .i64 kx, .int .i64 tw, .int .i64 i, v] w fun e' w' => e' = .returned (ib ((((brdOk ⟨l, m, a, b, c, d, e⟩ W H lt lr ld && inB kx nk && onI W H i) && spB 0 2 tw) && pthB p) && decide ((cstP (stp l lt lr ld W H b c kx.toNat tw) W i p).length = p.length)) (sumL (cstP (stp l lt lr ld W H b c kx.toNat tw) W i p))) ∧ Kp w w' := by
  have KA : Kp w (w.alloc (.cells #[.slice At nt ct, .slice Ak nk ck, .int .i64 a, .int .i64 b, .int .i64 c, .int .i64 d, .int .i64 e, .int .i64 W, .int .i64 H, x, r, y] 40)) := (Kp.refl w).alloc _
  have s0 : cb12 (w.alloc (.cells #[.slice At nt ct, .slice Ak nk ck, .int .i64 a, .int .i64 b, .int .i64 c, .int .i64 d, .int .i64 e, .int .i64 W, .int .i64 H, x, r, y] 40)) (w.heap.size) (.slice At nt ct) (.slice Ak nk ck) (.int .i64 a) (.int .i64 b) (.int .i64 c) (.int .i64 d) (.int .i64 e) (.int .i64 W) (.int .i64 H) (x) (r) (y) (Kp w (w.alloc (.cells #[.slice At nt ct, .slice Ak nk ck, .int .i64 a, .int .i64 b, .int .i64 c, .int .i64 d, .int .i64 e, .int .i64 W, .int .i64 H, x, r, y] 40))) := ⟨by simp [go_sem], by simp [go_sem], by simp [go_sem], by simp [go_sem], by simp [go_sem], by simp [go_sem], by simp [go_sem], by simp [go_sem], by simp [go_sem], by simp [go_sem], by simp [go_sem], by simp [go_sem], KA⟩
  have HB := Lib.hid hB
  have HT := Lib.hid ht
  have HS := Lib.hid hs
  have HP := Lib.hid hp
  have HPL := Lib.hid hpl
  clear hB ht hs hp hpl
  have CA := Lib.hid (fun (w : World) hs ht hB => isMoverAt_any At Ak nt nk ct ck l m a b c d e W H x r y lt lr ld kx tw i w hs ht hB)
  cases hg0 : ((brdOk ⟨l, m, a, b, c, d, e⟩ W H lt lr ld && inB kx nk && onI W H i) && spB 0 2 tw)
  · rw [hg0] at CA
    clear hg0
    repeat (first | rw [Bool.true_and] | rw [Bool.and_true] | rw [Bool.false_and] | rw [Bool.and_false])
    go_enter Tryz.func17, Tryz.ntmps17
    go_wp2_with fail
    refine (CA.out _ (HS.out.keep s0.2.2.2.2.2.2.2.2.2.2.2.2) (HT.out.keep s0.2.2.2.2.2.2.2.2.2.2.2.2) (HB.out.keep s0.2.2.2.2.2.2.2.2.2.2.2.2)).mono ?_
    rintro e1 w1 ⟨rfl, k1⟩
    have s1 := keepq12 k1 s0
    clear s0 k1
    go_wp2_with fail
    go_ret2
    exact ⟨rfl, s1.2.2.2.2.2.2.2.2.2.2.2.2⟩
  · rw [hg0] at CA
    have hok : brdOk ⟨l, m, a, b, c, d, e⟩ W H lt lr ld = true := by
      simp only [Bool.and_eq_true] at hg0
      exact hg0.1.1.1
    have hkx : inB kx nk = true := by
      simp only [Bool.and_eq_true] at hg0
      exact hg0.1.1.2
    have hi : onI W H i = true := by
      simp only [Bool.and_eq_true] at hg0
      exact hg0.1.2
    have hw : tw = 0 ∨ tw = 1 ∨ tw = 2 := by
      simp only [Bool.and_eq_true] at hg0
      exact wth_true hg0.2
    clear hg0
    obtain ⟨k, rfl, hk0⟩ := inB_at hkx
    have hk : k < m.length := by have := HB.out.R.rk.1; omega
    clear hkx
    have CP := Lib.hid (fun (w : World) h => isPath_any v p w h HPL.out)
    cases hg1 : pthB p
    · rw [hg1] at CP
      clear hg1 hok hi hw hk0 hk
      repeat (first | rw [Bool.true_and] | rw [Bool.and_true] | rw [Bool.false_and] | rw [Bool.and_false])
      go_enter Tryz.func17, Tryz.ntmps17
      go_wp2_with fail
      refine (CA.out _ (HS.out.keep s0.2.2.2.2.2.2.2.2.2.2.2.2) (HT.out.keep s0.2.2.2.2.2.2.2.2.2.2.2.2) (HB.out.keep s0.2.2.2.2.2.2.2.2.2.2.2.2)).mono ?_
      rintro e1 w1 ⟨rfl, k1⟩
      have s1 := keepq12 k1 s0
      clear s0 k1
      go_wp2_with fail
      refine (CP.out _ (HP.out.keep s1.2.2.2.2.2.2.2.2.2.2.2.2)).mono ?_
      rintro e2 w2 ⟨rfl, k2⟩
      have s2 := keepq12 k2 s1
      clear s1 k2
      go_wp2_with fail
      go_ret2
      exact ⟨rfl, s2.2.2.2.2.2.2.2.2.2.2.2.2⟩
    · rw [hg1] at CP
      obtain ⟨hp9, hpd⟩ := pth_dir hg1
      clear hg1
      rw [show ((k : Int)).toNat = k from rfl]
      have hbd := cstP_bd (W := W) (B := 20) (stp_bd (l := l) (a := a) (d := d) (e := e) (lt := lt) (lr := lr) (ld := ld) hok hk hw) p i
      have hcl := cstP_len (stp l lt lr ld W H b c k tw) W p i
      have CS := Lib.hid (fun (w : World) h ht hB => costsAlong_any At Ak nt nk ct ck l m a b c d e W H x r y lt lr ld k tw i v p w ht hB hok hk hw h hp9)
      generalize cstP (stp l lt lr ld W H b c k tw) W i p = L at *
      have CU := Lib.hid (fun (v : Value) (w : World) h => sumOf_any v L w h (by omega) (fun x hx => by have := hbd x hx; omega))
      have hsb := sumL_bd (by omega) L hbd
      obtain ⟨Av, cv, rfl, _⟩ := HP.out
      clear hok hi hw hk0 hk hpd
      repeat (first | rw [Bool.true_and] | rw [Bool.and_true] | rw [Bool.false_and] | rw [Bool.and_false])
      generalize p.length = np at *
      by_cases hz : L.length = np
      · rw [decide_eq_true hz]
        obtain ⟨nl, hnl⟩ : ∃ q, q = L.length := ⟨_, rfl⟩
        have HNL := Lib.hid hnl
        rw [← hnl] at hz hcl
        have hcmp : ¬ (nl : Int) < np := by omega
        generalize sumL L = Z at *
        clear hbd hsb hnl
        go_enter Tryz.func17, Tryz.ntmps17
        go_wp2_with fail
        refine (CA.out _ (HS.out.keep s0.2.2.2.2.2.2.2.2.2.2.2.2) (HT.out.keep s0.2.2.2.2.2.2.2.2.2.2.2.2) (HB.out.keep s0.2.2.2.2.2.2.2.2.2.2.2.2)).mono ?_
        rintro e1 w1 ⟨rfl, k1⟩
        have s1 := keepq12 k1 s0
        clear s0 k1
        go_wp2_with fail
        refine (CP.out _ (HP.out.keep s1.2.2.2.2.2.2.2.2.2.2.2.2)).mono ?_
        rintro e2 w2 ⟨rfl, k2⟩
        have s2 := keepq12 k2 s1
        clear s1 k2
        go_wp2_with fail
        refine (CS.out _ (HP.out.keep s2.2.2.2.2.2.2.2.2.2.2.2.2) (HT.out.keep s2.2.2.2.2.2.2.2.2.2.2.2.2) (HB.out.keep s2.2.2.2.2.2.2.2.2.2.2.2.2)).mono ?_
        rintro e9 w9 ⟨v9, rfl, o9, k9⟩
        have R9 := Lib.hid o9.rd
        obtain ⟨A9, c9, rfl⟩ := o9.slice
        rw [← HNL.out]
        clear o9
        go_wp2_with fail
        refine (CU.out _ _ (by first | (rw [HNL.out]; exact R9.out) | (have h9 := R9.out; rw [← HNL.out, hz] at h9; exact h9))).mono ?_
        rintro e8 w8 ⟨rfl, rfl⟩
        go_wp2_with fail
        go_ret2
        exact ⟨rfl, s2.2.2.2.2.2.2.2.2.2.2.2.2.trans k9⟩
      · rw [decide_eq_false hz]
        obtain ⟨nl, hnl⟩ : ∃ q, q = L.length := ⟨_, rfl⟩
        have HNL := Lib.hid hnl
        rw [← hnl] at hz hcl
        have hcmp : (nl : Int) < np := by omega
        generalize sumL L = Z at *
        clear hbd hsb hnl
        go_enter Tryz.func17, Tryz.ntmps17
        go_wp2_with fail
        refine (CA.out _ (HS.out.keep s0.2.2.2.2.2.2.2.2.2.2.2.2) (HT.out.keep s0.2.2.2.2.2.2.2.2.2.2.2.2) (HB.out.keep s0.2.2.2.2.2.2.2.2.2.2.2.2)).mono ?_
        rintro e1 w1 ⟨rfl, k1⟩
        have s1 := keepq12 k1 s0
        clear s0 k1
        go_wp2_with fail
        refine (CP.out _ (HP.out.keep s1.2.2.2.2.2.2.2.2.2.2.2.2)).mono ?_
        rintro e2 w2 ⟨rfl, k2⟩
        have s2 := keepq12 k2 s1
        clear s1 k2
        go_wp2_with fail
        refine (CS.out _ (HP.out.keep s2.2.2.2.2.2.2.2.2.2.2.2.2) (HT.out.keep s2.2.2.2.2.2.2.2.2.2.2.2.2) (HB.out.keep s2.2.2.2.2.2.2.2.2.2.2.2.2)).mono ?_
        rintro e9 w9 ⟨v9, rfl, o9, k9⟩
        have R9 := Lib.hid o9.rd
        obtain ⟨A9, c9, rfl⟩ := o9.slice
        rw [← HNL.out]
        clear o9
        go_wp2_with fail
        go_ret2
        exact ⟨rfl, s2.2.2.2.2.2.2.2.2.2.2.2.2.trans k9⟩

set_option maxRecDepth 100000 in
set_option maxHeartbeats 4000000 in
theorem specPathCost_any (At Ak : Option Addr) (nt nk ct ck : Nat) (l : List Ter) (m : List Knd) (a b c d e W H : Int) (x r y : Value) (lt lr ld : List Int) (kx tw i : Int) (v : Value) (p : List Int) (w : World) (hB : BrdAt w At Ak nt nk l m x r y lt lr ld) (hp : RdI w v p) (hpl : p.length ≤ 1048576) :
    Calls Tryz.prog 15 #[bv (.slice At nt ct) (.slice Ak nk ck) a b c d e W H x r y, .int .i64 kx, .int .i64 tw, .int .i64 i, v] w fun e' w' => e' = .returned (ib ((((brdOk ⟨l, m, a, b, c, d, e⟩ W H lt lr ld && inB kx nk && onI W H i) && spB 0 2 tw) && pthB p) && decide ((cstP (stp l lt lr ld W H b c kx.toNat tw) W i p).length = p.length)) (sumL (cstP (stp l lt lr ld W H b c kx.toNat tw) W i p))) ∧ Kp w w' := by
  have KA : Kp w (w.alloc (.cells #[.slice At nt ct, .slice Ak nk ck, .int .i64 a, .int .i64 b, .int .i64 c, .int .i64 d, .int .i64 e, .int .i64 W, .int .i64 H, x, r, y] 40)) := (Kp.refl w).alloc _
  have s0 : cb12 (w.alloc (.cells #[.slice At nt ct, .slice Ak nk ck, .int .i64 a, .int .i64 b, .int .i64 c, .int .i64 d, .int .i64 e, .int .i64 W, .int .i64 H, x, r, y] 40)) (w.heap.size) (.slice At nt ct) (.slice Ak nk ck) (.int .i64 a) (.int .i64 b) (.int .i64 c) (.int .i64 d) (.int .i64 e) (.int .i64 W) (.int .i64 H) (x) (r) (y) (Kp w (w.alloc (.cells #[.slice At nt ct, .slice Ak nk ck, .int .i64 a, .int .i64 b, .int .i64 c, .int .i64 d, .int .i64 e, .int .i64 W, .int .i64 H, x, r, y] 40))) := ⟨by simp [go_sem], by simp [go_sem], by simp [go_sem], by simp [go_sem], by simp [go_sem], by simp [go_sem], by simp [go_sem], by simp [go_sem], by simp [go_sem], by simp [go_sem], by simp [go_sem], by simp [go_sem], KA⟩
  have HB := Lib.hid hB
  have HP := Lib.hid hp
  have HPL := Lib.hid hpl
  clear hB hp hpl
  have CA := Lib.hid (fun (w : World) hB => csInput_any At Ak nt nk ct ck l m a b c d e W H x r y lt lr ld kx tw i w hB)
  cases hg0 : ((brdOk ⟨l, m, a, b, c, d, e⟩ W H lt lr ld && inB kx nk && onI W H i) && spB 0 2 tw)
  · rw [hg0] at CA
    clear hg0
    repeat (first | rw [Bool.true_and] | rw [Bool.and_true] | rw [Bool.false_and] | rw [Bool.and_false])
    go_enter Tryz.func15, Tryz.ntmps15
    go_wp2_with fail
    refine (CA.out _ (HB.out.keep s0.2.2.2.2.2.2.2.2.2.2.2.2)).mono ?_
    rintro e1 w1 ⟨rfl, k1⟩
    have s1 := keepq12 k1 s0
    clear s0 k1
    go_wp2_with fail
    go_ret2
    exact ⟨rfl, s1.2.2.2.2.2.2.2.2.2.2.2.2⟩
  · rw [hg0] at CA
    have hok : brdOk ⟨l, m, a, b, c, d, e⟩ W H lt lr ld = true := by
      simp only [Bool.and_eq_true] at hg0
      exact hg0.1.1.1
    have hkx : inB kx nk = true := by
      simp only [Bool.and_eq_true] at hg0
      exact hg0.1.1.2
    have hi : onI W H i = true := by
      simp only [Bool.and_eq_true] at hg0
      exact hg0.1.2
    have hw : tw = 0 ∨ tw = 1 ∨ tw = 2 := by
      simp only [Bool.and_eq_true] at hg0
      exact wth_true hg0.2
    clear hg0
    obtain ⟨k, rfl, hk0⟩ := inB_at hkx
    have hk : k < m.length := by have := HB.out.R.rk.1; omega
    clear hkx
    have CP := Lib.hid (fun (w : World) h => csPath_any v p w h HPL.out)
    cases hg1 : pthB p
    · rw [hg1] at CP
      clear hg1 hok hi hw hk0 hk
      repeat (first | rw [Bool.true_and] | rw [Bool.and_true] | rw [Bool.false_and] | rw [Bool.and_false])
      go_enter Tryz.func15, Tryz.ntmps15
      go_wp2_with fail
      refine (CA.out _ (HB.out.keep s0.2.2.2.2.2.2.2.2.2.2.2.2)).mono ?_
      rintro e1 w1 ⟨rfl, k1⟩
      have s1 := keepq12 k1 s0
      clear s0 k1
      go_wp2_with fail
      refine (CP.out _ (HP.out.keep s1.2.2.2.2.2.2.2.2.2.2.2.2)).mono ?_
      rintro e2 w2 ⟨rfl, rfl⟩
      have s2 := s1
      clear s1
      go_wp2_with fail
      go_ret2
      exact ⟨rfl, s2.2.2.2.2.2.2.2.2.2.2.2.2⟩
    · rw [hg1] at CP
      obtain ⟨hp9, hpd⟩ := pth_dir hg1
      clear hg1
      rw [show ((k : Int)).toNat = k from rfl]
      have hbd := cstP_bd (W := W) (B := 20) (stp_bd (l := l) (a := a) (d := d) (e := e) (lt := lt) (lr := lr) (ld := ld) hok hk hw) p i
      have hcl := cstP_len (stp l lt lr ld W H b c k tw) W p i
      have CS := Lib.hid (fun (w : World) h hB => csCost_any At Ak nt nk ct ck l m a b c d e W H x r y lt lr ld k tw i v p w hB hok hk hw hi hpd h hp9)
      rw [csR_eq] at CS
      generalize cstP (stp l lt lr ld W H b c k tw) W i p = L at *
      have hsb := sumL_bd (by omega) L hbd
      clear hok hi hw hk0 hk hpd
      repeat (first | rw [Bool.true_and] | rw [Bool.and_true] | rw [Bool.false_and] | rw [Bool.and_false])
      by_cases hz : L.length = p.length
      · rw [decide_eq_true hz]
        rw [if_pos hz] at CS
        rw [Int.zero_add] at CS
        have hs0 : ¬ sumL L < 0 := by omega
        generalize sumL L = Z at *
        clear hbd hcl hz hsb hp9
        go_enter Tryz.func15, Tryz.ntmps15
        go_wp2_with fail
        refine (CA.out _ (HB.out.keep s0.2.2.2.2.2.2.2.2.2.2.2.2)).mono ?_
        rintro e1 w1 ⟨rfl, k1⟩
        have s1 := keepq12 k1 s0
        clear s0 k1
        go_wp2_with fail
        refine (CP.out _ (HP.out.keep s1.2.2.2.2.2.2.2.2.2.2.2.2)).mono ?_
        rintro e2 w2 ⟨rfl, rfl⟩
        have s2 := s1
        clear s1
        go_wp2_with fail
        refine (CS.out _ (HP.out.keep s2.2.2.2.2.2.2.2.2.2.2.2.2) (HB.out.keep s2.2.2.2.2.2.2.2.2.2.2.2.2)).mono ?_
        rintro e9 w9 ⟨rfl, k9⟩
        go_wp2_with fail
        go_ret2
        exact ⟨rfl, s2.2.2.2.2.2.2.2.2.2.2.2.2.trans k9⟩
      · rw [decide_eq_false hz]
        rw [if_neg hz] at CS
        generalize sumL L = Z at *
        clear hbd hcl hz hsb hp9
        go_enter Tryz.func15, Tryz.ntmps15
        go_wp2_with fail
        refine (CA.out _ (HB.out.keep s0.2.2.2.2.2.2.2.2.2.2.2.2)).mono ?_
        rintro e1 w1 ⟨rfl, k1⟩
        have s1 := keepq12 k1 s0
        clear s0 k1
        go_wp2_with fail
        refine (CP.out _ (HP.out.keep s1.2.2.2.2.2.2.2.2.2.2.2.2)).mono ?_
        rintro e2 w2 ⟨rfl, rfl⟩
        have s2 := s1
        clear s1
        go_wp2_with fail
        refine (CS.out _ (HP.out.keep s2.2.2.2.2.2.2.2.2.2.2.2.2) (HB.out.keep s2.2.2.2.2.2.2.2.2.2.2.2.2)).mono ?_
        rintro e9 w9 ⟨rfl, k9⟩
        go_wp2_with fail
        go_ret2
        exact ⟨rfl, s2.2.2.2.2.2.2.2.2.2.2.2.2.trans k9⟩

theorem own_capX {w : World} {base c : Nat} {A : Option Addr} {l : List Int} (h : OwnI w base (.slice A l.length c) l) : l.length ≤ c := by
  rcases h.2 with ⟨e, h1⟩ | ⟨g, cap, cur, e1, _, _, h3, h4, _⟩
  · injection e with _ _ e3
    omega
  · injection e1 with _ _ e3
    omega
def lenOf : Value → Nat
  | .slice _ n _ => n
  | _ => 0
theorem rd_take {w : World} {A : Option Addr} {n c : Nat} {L : List Int} (h : RdI w (.slice A n c) L) (q : Nat) (hq : q ≤ L.length) : RdI w (.slice A q c) (L.take q) := by
  obtain ⟨A', c', e, h⟩ := h
  obtain ⟨rfl, rfl, rfl⟩ : A = A' ∧ n = L.length ∧ c = c' := by simpa using e
  have hl : (L.take q).length = q := by rw [List.length_take]; omega
  refine ⟨A, c, by rw [hl], fun h0 => ?_⟩
  obtain ⟨g, off, rfl, hc⟩ := h (by omega)
  refine ⟨g, off, rfl, fun i y hy => ?_⟩
  rw [List.getElem?_take] at hy
  split at hy
  · exact hc i y hy
  · simp at hy

set_option maxRecDepth 100000 in
set_option maxHeartbeats 4000000 in
theorem stepsWithinP_any (At Ak : Option Addr) (nt nk ct ck : Nat) (l : List Ter) (m : List Knd) (a b c d e W H : Int) (x r y : Value) (lt lr ld : List Int) (kx tw i : Int) (v : Value) (p : List Int) (mv : Int) (w : World) (hs : SpM w) (ht : Tab w) (hB : BrdAt w At Ak nt nk l m x r y lt lr ld) (hp : RdI w v p) (hpl : p.length ≤ 1048576) :
    Calls Tryz.prog 19 #[bv (.slice At nt ct) (.slice Ak nk ck) a b c d e W H x r y, .int .i64 kx, .int .i64 tw, .int .i64 i, v, .int .i64 mv] w fun e' w' => e' = .returned (ib ((((brdOk ⟨l, m, a, b, c, d, e⟩ W H lt lr ld && inB kx nk && onI W H i) && spB 0 2 tw) && pthB p) && spB 0 1000 mv) ((witN mv (cstP (stp l lt lr ld W H b c kx.toNat tw) W i p) : Nat))) ∧ Kp w w' := by
  have KA : Kp w (w.alloc (.cells #[.slice At nt ct, .slice Ak nk ck, .int .i64 a, .int .i64 b, .int .i64 c, .int .i64 d, .int .i64 e, .int .i64 W, .int .i64 H, x, r, y] 40)) := (Kp.refl w).alloc _
  have s0 : cb12 (w.alloc (.cells #[.slice At nt ct, .slice Ak nk ck, .int .i64 a, .int .i64 b, .int .i64 c, .int .i64 d, .int .i64 e, .int .i64 W, .int .i64 H, x, r, y] 40)) (w.heap.size) (.slice At nt ct) (.slice Ak nk ck) (.int .i64 a) (.int .i64 b) (.int .i64 c) (.int .i64 d) (.int .i64 e) (.int .i64 W) (.int .i64 H) (x) (r) (y) (Kp w (w.alloc (.cells #[.slice At nt ct, .slice Ak nk ck, .int .i64 a, .int .i64 b, .int .i64 c, .int .i64 d, .int .i64 e, .int .i64 W, .int .i64 H, x, r, y] 40))) := ⟨by simp [go_sem], by simp [go_sem], by simp [go_sem], by simp [go_sem], by simp [go_sem], by simp [go_sem], by simp [go_sem], by simp [go_sem], by simp [go_sem], by simp [go_sem], by simp [go_sem], by simp [go_sem], KA⟩
  have HB := Lib.hid hB
  have HT := Lib.hid ht
  have HS := Lib.hid hs
  have HP := Lib.hid hp
  have HPL := Lib.hid hpl
  clear hB ht hs hp hpl
  have CA := Lib.hid (fun (w : World) hs ht hB => isMoverAt_any At Ak nt nk ct ck l m a b c d e W H x r y lt lr ld kx tw i w hs ht hB)
  cases hg0 : ((brdOk ⟨l, m, a, b, c, d, e⟩ W H lt lr ld && inB kx nk && onI W H i) && spB 0 2 tw)
  · rw [hg0] at CA
    clear hg0
    repeat (first | rw [Bool.true_and] | rw [Bool.and_true] | rw [Bool.false_and] | rw [Bool.and_false])
    go_enter Tryz.func19, Tryz.ntmps19
    go_wp2_with fail
    refine (CA.out _ (HS.out.c.keep s0.2.2.2.2.2.2.2.2.2.2.2.2) (HT.out.keep s0.2.2.2.2.2.2.2.2.2.2.2.2) (HB.out.keep s0.2.2.2.2.2.2.2.2.2.2.2.2)).mono ?_
    rintro e1 w1 ⟨rfl, k1⟩
    have s1 := keepq12 k1 s0
    clear s0 k1
    go_wp2_with fail
    go_ret2
    exact ⟨rfl, s1.2.2.2.2.2.2.2.2.2.2.2.2⟩
  · rw [hg0] at CA
    have hok : brdOk ⟨l, m, a, b, c, d, e⟩ W H lt lr ld = true := by
      simp only [Bool.and_eq_true] at hg0
      exact hg0.1.1.1
    have hkx : inB kx nk = true := by
      simp only [Bool.and_eq_true] at hg0
      exact hg0.1.1.2
    have hi : onI W H i = true := by
      simp only [Bool.and_eq_true] at hg0
      exact hg0.1.2
    have hw : tw = 0 ∨ tw = 1 ∨ tw = 2 := by
      simp only [Bool.and_eq_true] at hg0
      exact wth_true hg0.2
    clear hg0
    obtain ⟨k, rfl, hk0⟩ := inB_at hkx
    have hk : k < m.length := by have := HB.out.R.rk.1; omega
    clear hkx
    have CP := Lib.hid (fun (w : World) h => isPath_any v p w h HPL.out)
    cases hg1 : pthB p
    · rw [hg1] at CP
      clear hg1 hok hi hw hk0 hk
      repeat (first | rw [Bool.true_and] | rw [Bool.and_true] | rw [Bool.false_and] | rw [Bool.and_false])
      go_enter Tryz.func19, Tryz.ntmps19
      go_wp2_with fail
      refine (CA.out _ (HS.out.c.keep s0.2.2.2.2.2.2.2.2.2.2.2.2) (HT.out.keep s0.2.2.2.2.2.2.2.2.2.2.2.2) (HB.out.keep s0.2.2.2.2.2.2.2.2.2.2.2.2)).mono ?_
      rintro e1 w1 ⟨rfl, k1⟩
      have s1 := keepq12 k1 s0
      clear s0 k1
      go_wp2_with fail
      refine (CP.out _ (HP.out.keep s1.2.2.2.2.2.2.2.2.2.2.2.2)).mono ?_
      rintro e2 w2 ⟨rfl, k2⟩
      have s2 := keepq12 k2 s1
      clear s1 k2
      obtain ⟨gb1, gb2⟩ := (s2.2.2.2.2.2.2.2.2.2.2.2.2).two HS.out.bu
      go_wp2_with fail
      go_ret2
      exact ⟨rfl, s2.2.2.2.2.2.2.2.2.2.2.2.2⟩
    · rw [hg1] at CP
      obtain ⟨hp9, hpd⟩ := pth_dir hg1
      clear hg1
      have CM := Lib.hid (fun (w : World) => has_any 0 1000 mv w)
      cases hg2 : spB 0 1000 mv
      · rw [hg2] at CM
        clear hg2 hok hi hw hk0 hk hp9 hpd
        repeat (first | rw [Bool.true_and] | rw [Bool.and_true] | rw [Bool.false_and] | rw [Bool.and_false])
        go_enter Tryz.func19, Tryz.ntmps19
        go_wp2_with fail
        refine (CA.out _ (HS.out.c.keep s0.2.2.2.2.2.2.2.2.2.2.2.2) (HT.out.keep s0.2.2.2.2.2.2.2.2.2.2.2.2) (HB.out.keep s0.2.2.2.2.2.2.2.2.2.2.2.2)).mono ?_
        rintro e1 w1 ⟨rfl, k1⟩
        have s1 := keepq12 k1 s0
        clear s0 k1
        go_wp2_with fail
        refine (CP.out _ (HP.out.keep s1.2.2.2.2.2.2.2.2.2.2.2.2)).mono ?_
        rintro e2 w2 ⟨rfl, k2⟩
        have s2 := keepq12 k2 s1
        clear s1 k2
        obtain ⟨gb1, gb2⟩ := (s2.2.2.2.2.2.2.2.2.2.2.2.2).two HS.out.bu
        go_wp2_with fail
        refine (CM.out _).mono ?_
        rintro e3 w3 ⟨rfl, k3⟩
        have s3 := keepq12 k3 s2
        clear s2 k3
        go_wp2_with fail
        go_ret2
        exact ⟨rfl, s3.2.2.2.2.2.2.2.2.2.2.2.2⟩
      · rw [hg2] at CM
        have hm : 0 ≤ mv ∧ mv ≤ 1000 := by simpa [spB] using hg2
        clear hg2
        rw [show ((k : Int)).toNat = k from rfl]
        have hbd := cstP_bd (W := W) (B := 20) (stp_bd (l := l) (a := a) (d := d) (e := e) (lt := lt) (lr := lr) (ld := ld) hok hk hw) p i
        have hps := cstP_pos (W := W) (fun i' d' => (stp_bd (l := l) (a := a) (d := d) (e := e) (lt := lt) (lr := lr) (ld := ld) hok hk hw i' d').1) p i
        have hcl := cstP_len (stp l lt lr ld W H b c k tw) W p i
        have CS := Lib.hid (fun (w : World) h ht hB => costsAlong_any At Ak nt nk ct ck l m a b c d e W H x r y lt lr ld k tw i v p w ht hB hok hk hw h hp9)
        generalize cstP (stp l lt lr ld W H b c k tw) W i p = L at *
        have hl9 : L.length ≤ 9 := by omega
        have CU : Hid (∀ (q : Nat) (v : Value) w, RdI w v (L.take q) → Calls Tryz.prog 36 #[v] w fun e w' => e = .returned (.int .i64 (sumL (L.take q))) ∧ w = w') := Lib.hid fun q v w h => sumOf_any v (L.take q) w h (by rw [List.length_take]; omega) (fun x hx => by have := take_bd hbd q x hx; omega)
        obtain ⟨Z, hZ⟩ : ∃ Z, Z = witN mv L := ⟨_, rfl⟩
        rw [← hZ]
        have HW : Hid (∀ q, Z ≤ q → q ≤ L.length → sumL (L.take q) ≤ mv → Z = q) := Lib.hid fun q h1 h2 h3 => by
          rw [hZ] at h1 ⊢
          exact witN_eq hps hm.1 h1 h2 h3
        have HW2 : Hid (∀ q, Z ≤ q → mv < sumL (L.take q) → Z + 1 ≤ q) := Lib.hid fun q h1 h2 => by
          have h3 := witN_in L mv hm.1
          rw [← hZ] at h3
          rcases Nat.lt_or_ge Z q with h | h
          · exact h
          · obtain rfl : Z = q := by omega
            omega
        have hZl : Z ≤ L.length := by rw [hZ]; exact witN_len L mv
        obtain ⟨nl, hnl⟩ : ∃ q, q = L.length := ⟨_, rfl⟩
        have HNL := Lib.hid hnl
        rw [← hnl] at hl9 hZl
        clear hbd hps hcl hZ hnl hok hi hw hk0 hk hp9 hpd hm
        repeat (first | rw [Bool.true_and] | rw [Bool.and_true] | rw [Bool.false_and] | rw [Bool.and_false])
        go_enter Tryz.func19, Tryz.ntmps19
        go_wp2_with fail
        refine (CA.out _ (HS.out.c.keep s0.2.2.2.2.2.2.2.2.2.2.2.2) (HT.out.keep s0.2.2.2.2.2.2.2.2.2.2.2.2) (HB.out.keep s0.2.2.2.2.2.2.2.2.2.2.2.2)).mono ?_
        rintro e1 w1 ⟨rfl, k1⟩
        have s1 := keepq12 k1 s0
        clear s0 k1
        go_wp2_with fail
        refine (CP.out _ (HP.out.keep s1.2.2.2.2.2.2.2.2.2.2.2.2)).mono ?_
        rintro e2 w2 ⟨rfl, k2⟩
        have s2 := keepq12 k2 s1
        clear s1 k2
        obtain ⟨gb1, gb2⟩ := (s2.2.2.2.2.2.2.2.2.2.2.2.2).two HS.out.bu
        go_wp2_with fail
        refine (CM.out _).mono ?_
        rintro e3 w3 ⟨rfl, k3⟩
        have s3 := keepq12 k3 s2
        clear s2 k3
        go_wp2_with fail
        refine (CS.out _ (HP.out.keep s3.2.2.2.2.2.2.2.2.2.2.2.2) (HT.out.keep s3.2.2.2.2.2.2.2.2.2.2.2.2) (HB.out.keep s3.2.2.2.2.2.2.2.2.2.2.2.2)).mono ?_
        rintro e9 w9 ⟨v9, rfl, o9, k9⟩
        have R9 := Lib.hid o9.rd
        obtain ⟨A9, c9, rfl⟩ := o9.slice
        have hcap9 : L.length ≤ c9 := own_capX o9
        rw [← HNL.out] at hcap9 ⊢
        clear o9
        have K9 := s3.2.2.2.2.2.2.2.2.2.2.2.2.trans k9
        clear s3 k9
        go_wp2_with fail
        go_loop [14] (fun vv => ∃ q : Nat, q ≤ nl ∧ vv = .slice A9 q c9 ∧ Z ≤ q) (fun vv => lenOf vv)
        case atStart => exact ⟨nl, by omega, rfl, hZl⟩
        case round =>
          obtain ⟨q, hq, rfl, hZq⟩ := hrel
          have RQ := Lib.hid (rd_take R9.out q (by have := HNL.out; omega))
          by_cases hlt : mv < sumL (L.take q)
          · have hq1 := HW2.out q hZq hlt
            obtain ⟨q2, rfl⟩ : ∃ q2, q = q2 + 1 := ⟨q - 1, by omega⟩
            go_wp2_with fail
            refine (CU.out _ _ _ RQ.out).mono ?_
            rintro e8 w8 ⟨rfl, rfl⟩
            go_wp2_with fail
            go_round
            case rel => exact ⟨q2, by omega, by go_num, by omega⟩
            case measure => simp [lenOf]
          · have HZ := Lib.hid (HW.out q hZq (by have := HNL.out; omega) (by omega))
            go_wp2_with fail
            refine (CU.out _ _ _ RQ.out).mono ?_
            rintro e8 w8 ⟨rfl, rfl⟩
            go_wp2_with fail
            go_ret2
            exact ⟨by rw [HZ.out]; rfl, K9⟩

set_option maxRecDepth 100000 in
set_option maxHeartbeats 4000000 in
theorem specStepsWithin_any (At Ak : Option Addr) (nt nk ct ck : Nat) (l : List Ter) (m : List Knd) (a b c d e W H : Int) (x r y : Value) (lt lr ld : List Int) (kx tw i : Int) (v : Value) (p : List Int) (mv : Int) (w : World) (hB : BrdAt w At Ak nt nk l m x r y lt lr ld) (hp : RdI w v p) (hpl : p.length ≤ 1048576) :
    Calls Tryz.prog 18 #[bv (.slice At nt ct) (.slice Ak nk ck) a b c d e W H x r y, .int .i64 kx, .int .i64 tw, .int .i64 i, v, .int .i64 mv] w fun e' w' => e' = .returned (ib ((((brdOk ⟨l, m, a, b, c, d, e⟩ W H lt lr ld && inB kx nk && onI W H i) && spB 0 2 tw) && pthB p) && spB 0 1000 mv) ((witN mv (cstP (stp l lt lr ld W H b c kx.toNat tw) W i p) : Nat))) ∧ Kp w w' := by
  have KA : Kp w (w.alloc (.cells #[.slice At nt ct, .slice Ak nk ck, .int .i64 a, .int .i64 b, .int .i64 c, .int .i64 d, .int .i64 e, .int .i64 W, .int .i64 H, x, r, y] 40)) := (Kp.refl w).alloc _
  have s0 : cb12 (w.alloc (.cells #[.slice At nt ct, .slice Ak nk ck, .int .i64 a, .int .i64 b, .int .i64 c, .int .i64 d, .int .i64 e, .int .i64 W, .int .i64 H, x, r, y] 40)) (w.heap.size) (.slice At nt ct) (.slice Ak nk ck) (.int .i64 a) (.int .i64 b) (.int .i64 c) (.int .i64 d) (.int .i64 e) (.int .i64 W) (.int .i64 H) (x) (r) (y) (Kp w (w.alloc (.cells #[.slice At nt ct, .slice Ak nk ck, .int .i64 a, .int .i64 b, .int .i64 c, .int .i64 d, .int .i64 e, .int .i64 W, .int .i64 H, x, r, y] 40))) := ⟨by simp [go_sem], by simp [go_sem], by simp [go_sem], by simp [go_sem], by simp [go_sem], by simp [go_sem], by simp [go_sem], by simp [go_sem], by simp [go_sem], by simp [go_sem], by simp [go_sem], by simp [go_sem], KA⟩
  have HB := Lib.hid hB
  have HP := Lib.hid hp
  have HPL := Lib.hid hpl
  clear hB hp hpl
  have CA := Lib.hid (fun (w : World) hB => csInput_any At Ak nt nk ct ck l m a b c d e W H x r y lt lr ld kx tw i w hB)
  cases hg0 : ((brdOk ⟨l, m, a, b, c, d, e⟩ W H lt lr ld && inB kx nk && onI W H i) && spB 0 2 tw)
  · rw [hg0] at CA
    clear hg0
    repeat (first | rw [Bool.true_and] | rw [Bool.and_true] | rw [Bool.false_and] | rw [Bool.and_false])
    go_enter Tryz.func18, Tryz.ntmps18
    go_wp2_with fail
    refine (CA.out _ (HB.out.keep s0.2.2.2.2.2.2.2.2.2.2.2.2)).mono ?_
    rintro e1 w1 ⟨rfl, k1⟩
    have s1 := keepq12 k1 s0
    clear s0 k1
    go_wp2_with fail
    go_ret2
    exact ⟨rfl, s1.2.2.2.2.2.2.2.2.2.2.2.2⟩
  · rw [hg0] at CA
    have hok : brdOk ⟨l, m, a, b, c, d, e⟩ W H lt lr ld = true := by
      simp only [Bool.and_eq_true] at hg0
      exact hg0.1.1.1
    have hkx : inB kx nk = true := by
      simp only [Bool.and_eq_true] at hg0
      exact hg0.1.1.2
    have hi : onI W H i = true := by
      simp only [Bool.and_eq_true] at hg0
      exact hg0.1.2
    have hw : tw = 0 ∨ tw = 1 ∨ tw = 2 := by
      simp only [Bool.and_eq_true] at hg0
      exact wth_true hg0.2
    clear hg0
    obtain ⟨k, rfl, hk0⟩ := inB_at hkx
    have hk : k < m.length := by have := HB.out.R.rk.1; omega
    clear hkx
    have CP := Lib.hid (fun (w : World) h => csPath_any v p w h HPL.out)
    cases hg1 : pthB p
    · rw [hg1] at CP
      clear hg1 hok hi hw hk0 hk
      repeat (first | rw [Bool.true_and] | rw [Bool.and_true] | rw [Bool.false_and] | rw [Bool.and_false])
      go_enter Tryz.func18, Tryz.ntmps18
      go_wp2_with fail
      refine (CA.out _ (HB.out.keep s0.2.2.2.2.2.2.2.2.2.2.2.2)).mono ?_
      rintro e1 w1 ⟨rfl, k1⟩
      have s1 := keepq12 k1 s0
      clear s0 k1
      go_wp2_with fail
      refine (CP.out _ (HP.out.keep s1.2.2.2.2.2.2.2.2.2.2.2.2)).mono ?_
      rintro e2 w2 ⟨rfl, rfl⟩
      have s2 := s1
      clear s1
      go_wp2_with fail
      go_ret2
      exact ⟨rfl, s2.2.2.2.2.2.2.2.2.2.2.2.2⟩
    · rw [hg1] at CP
      obtain ⟨hp9, hpd⟩ := pth_dir hg1
      clear hg1
      have CM := Lib.hid (fun (w : World) => l1In_sp mv 0 1000 w)
      cases hg2 : spB 0 1000 mv
      · rw [hg2] at CM
        clear hg2 hok hi hw hk0 hk hp9 hpd
        repeat (first | rw [Bool.true_and] | rw [Bool.and_true] | rw [Bool.false_and] | rw [Bool.and_false])
        go_enter Tryz.func18, Tryz.ntmps18
        go_wp2_with fail
        refine (CA.out _ (HB.out.keep s0.2.2.2.2.2.2.2.2.2.2.2.2)).mono ?_
        rintro e1 w1 ⟨rfl, k1⟩
        have s1 := keepq12 k1 s0
        clear s0 k1
        go_wp2_with fail
        refine (CP.out _ (HP.out.keep s1.2.2.2.2.2.2.2.2.2.2.2.2)).mono ?_
        rintro e2 w2 ⟨rfl, rfl⟩
        have s2 := s1
        clear s1
        go_wp2_with fail
        refine (CM.out _).mono ?_
        rintro e3 w3 ⟨rfl, rfl⟩
        have s3 := s2
        clear s2
        go_wp2_with fail
        go_ret2
        exact ⟨rfl, s3.2.2.2.2.2.2.2.2.2.2.2.2⟩
      · rw [hg2] at CM
        have hm : 0 ≤ mv ∧ mv ≤ 1000 := by simpa [spB] using hg2
        clear hg2
        rw [show ((k : Int)).toNat = k from rfl]
        have CS := Lib.hid (fun (w : World) h hB => csWithin_any At Ak nt nk ct ck l m a b c d e W H x r y lt lr ld k tw i v p mv w hB hok hk hw hi hpd h hp9 hm)
        generalize witN mv (cstP (stp l lt lr ld W H b c k tw) W i p) = Z at *
        clear hok hi hw hk0 hk hp9 hpd hm
        repeat (first | rw [Bool.true_and] | rw [Bool.and_true] | rw [Bool.false_and] | rw [Bool.and_false])
        go_enter Tryz.func18, Tryz.ntmps18
        go_wp2_with fail
        refine (CA.out _ (HB.out.keep s0.2.2.2.2.2.2.2.2.2.2.2.2)).mono ?_
        rintro e1 w1 ⟨rfl, k1⟩
        have s1 := keepq12 k1 s0
        clear s0 k1
        go_wp2_with fail
        refine (CP.out _ (HP.out.keep s1.2.2.2.2.2.2.2.2.2.2.2.2)).mono ?_
        rintro e2 w2 ⟨rfl, rfl⟩
        have s2 := s1
        clear s1
        go_wp2_with fail
        refine (CM.out _).mono ?_
        rintro e3 w3 ⟨rfl, rfl⟩
        have s3 := s2
        clear s2
        go_wp2_with fail
        refine (CS.out _ (HP.out.keep s3.2.2.2.2.2.2.2.2.2.2.2.2) (HB.out.keep s3.2.2.2.2.2.2.2.2.2.2.2.2)).mono ?_
        rintro e9 w9 ⟨rfl, k9⟩
        go_wp2_with fail
        go_ret2
        exact ⟨rfl, s3.2.2.2.2.2.2.2.2.2.2.2.2.trans k9⟩

end Go.Proofs.YtngifnnpimfimaaGreatDoor
