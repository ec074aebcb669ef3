/-
  Chapter 9's other functions, both sides: PathHexes, CheapestStep, CostliestStep, WeatherCost. Nothing that was there is changed. The named variables hold what the program's text lays.
-/
import Derived.Test.YtngifnnpimfimaaDoorCsT
import Derived.Test.YtngifnnpimfimaaDoorCsA
import Derived.StillTailTactics
import Derived.Deep.Cut
import Derived.Maps.AppendAt
import Derived.Test.YtngifnnpimfimaaDoorQa
import Derived.Test.YtngifnnpimfimaaDoorQa
namespace Go.Proofs.YtngifnnpimfimaaDoor
open Go.RowKit


set_option maxRecDepth 100000 in
set_option maxHeartbeats 4000000 in
theorem pathHexesP_any (At Ak : Option Addr) (nt nk ct ck : Nat) (l : List Ter) (m : List Knd) (a b c d e W H : Int) (x r y : Value) (lt lr ld : List Int) (i : Int) (v : Value) (p : List Int) (w : World) (hs : Spans w) (ht : Tab w) (hB : BrdAt w At Ak nt nk l m x r y lt lr ld) (hp : RdI w v p) (hpl : p.length ≤ 1048576) :
    Calls Tryd.prog 18 #[bv (.slice At nt ct) (.slice Ak nk ck) a b c d e W H x r y, .int .i64 i, v] w (ListPostI (((brdOk ⟨l, m, a, b, c, d, e⟩ W H lt lr ld && onI W H i) && pthB p) && onP W H i p) (hexP W i p) w) := by
  have KA : Kp w (w.alloc (.cells #[.slice At nt ct, .slice Ak nk ck, .int .i64 a, .int .i64 b, .int .i64 c, .int .i64 d, .int .i64 e, .int .i64 W, .int .i64 H, x, r, y] 42)) := (Kp.refl w).alloc _
  have s0 : cb12 (w.alloc (.cells #[.slice At nt ct, .slice Ak nk ck, .int .i64 a, .int .i64 b, .int .i64 c, .int .i64 d, .int .i64 e, .int .i64 W, .int .i64 H, x, r, y] 42)) (w.heap.size) (.slice At nt ct) (.slice Ak nk ck) (.int .i64 a) (.int .i64 b) (.int .i64 c) (.int .i64 d) (.int .i64 e) (.int .i64 W) (.int .i64 H) (x) (r) (y) (Kp w (w.alloc (.cells #[.slice At nt ct, .slice Ak nk ck, .int .i64 a, .int .i64 b, .int .i64 c, .int .i64 d, .int .i64 e, .int .i64 W, .int .i64 H, x, r, y] 42))) := ⟨by simp [go_sem], by simp [go_sem], by simp [go_sem], by simp [go_sem], by simp [go_sem], by simp [go_sem], by simp [go_sem], by simp [go_sem], by simp [go_sem], by simp [go_sem], by simp [go_sem], by simp [go_sem], KA⟩
  have s00 := s0
  clear s0
  have s0 := keepq12 ((Kp.refl _).alloc (.cells #[.int .i64 i] 3)) s00
  have HB := Lib.hid hB
  have HT := Lib.hid ht
  have HS := Lib.hid hs
  have HP := Lib.hid hp
  have HPL := Lib.hid hpl
  clear hB ht hs hp hpl
  have CA := Lib.hid (areOneX_any At Ak nt nk ct ck l m a b c d e W H x r y lt lr ld i w HS.out HT.out HB.out)
  cases hg0 : (brdOk ⟨l, m, a, b, c, d, e⟩ W H lt lr ld && onI W H i)
  · rw [hg0] at CA
    clear hg0
    repeat (first | rw [Bool.true_and] | rw [Bool.and_true] | rw [Bool.false_and] | rw [Bool.and_false])
    go_enter Tryd.func18, Tryd.ntmps18
    go_wp2_with fail
    refine CA.out.mono ?_
    rintro e1 w1 ⟨rfl, k1⟩
    have s1 := keepq12 k1 s0
    clear s0 k1
    go_wp2_with fail
    go_ret2
    exact ListPostI.no (s1.2.2.2.2.2.2.2.2.2.2.2.2)
  · rw [hg0] at CA
    have hok : brdOk ⟨l, m, a, b, c, d, e⟩ W H lt lr ld = true := by
      simp only [Bool.and_eq_true] at hg0
      exact hg0.1
    have hi : onI W H i = true := by
      simp only [Bool.and_eq_true] at hg0
      exact hg0.2
    obtain ⟨g1, g2, g3, g4⟩ := mapOk_side (brdOk_map hok)
    clear hg0
    have CP := Lib.hid (fun (w : World) h => isPath_any v p w h HPL.out)
    cases hg1 : pthB p
    · rw [hg1] at CP
      clear hg1 hok hi
      repeat (first | rw [Bool.true_and] | rw [Bool.and_true] | rw [Bool.false_and] | rw [Bool.and_false])
      go_enter Tryd.func18, Tryd.ntmps18
      go_wp2_with fail
      refine CA.out.mono ?_
      rintro e1 w1 ⟨rfl, k1⟩
      have s1 := keepq12 k1 s0
      clear s0 k1
      go_wp2_with fail
      refine (CP.out _ (HP.out.keep s1.2.2.2.2.2.2.2.2.2.2.2.2)).mono ?_
      rintro e2 w2 ⟨rfl, k2⟩
      have s2 := keepq12 k2 s1
      clear s1 k2
      go_wp2_with fail
      go_ret2
      exact ListPostI.no (s2.2.2.2.2.2.2.2.2.2.2.2.2)
    · rw [hg1] at CP
      obtain ⟨hp9, hpd⟩ := pth_dir hg1
      clear hg1
      have CS := Lib.hid (fun (w : World) ht h => hexesAlong_any W H x r y i v p w g1 g2 g3 g4 ht h hp9)
      generalize onP W H i p = B at *
      generalize hexP W i p = L at *
      clear hok hi hp9 hpd
      repeat (first | rw [Bool.true_and] | rw [Bool.and_true] | rw [Bool.false_and] | rw [Bool.and_false])
      go_enter Tryd.func18, Tryd.ntmps18
      go_wp2_with fail
      refine CA.out.mono ?_
      rintro e1 w1 ⟨rfl, k1⟩
      have s1 := keepq12 k1 s0
      clear s0 k1
      go_wp2_with fail
      refine (CP.out _ (HP.out.keep s1.2.2.2.2.2.2.2.2.2.2.2.2)).mono ?_
      rintro e2 w2 ⟨rfl, k2⟩
      have s2 := keepq12 k2 s1
      clear s1 k2
      go_wp2_with fail
      refine (CS.out _ (HT.out.keep s2.2.2.2.2.2.2.2.2.2.2.2.2) (HP.out.keep s2.2.2.2.2.2.2.2.2.2.2.2.2)).mono ?_
      rintro e9 w9 ⟨v9, rfl, o9, k9⟩
      have O9 := Lib.hid (o9.base (b := w.heap.size) (by have := s2.2.2.2.2.2.2.2.2.2.2.2.2.size; omega))
      clear o9
      go_wp2_with fail
      go_ret2
      exact ⟨_, rfl, O9.out, s2.2.2.2.2.2.2.2.2.2.2.2.2.trans k9⟩

set_option maxRecDepth 100000 in
set_option maxHeartbeats 4000000 in
theorem specPathHexes_any (At Ak : Option Addr) (nt nk ct ck : Nat) (l : List Ter) (m : List Knd) (a b c d e W H : Int) (x r y : Value) (lt lr ld : List Int) (i : Int) (v : Value) (p : List Int) (w : World) (hB : BrdAt w At Ak nt nk l m x r y lt lr ld) (hp : RdI w v p) (hpl : p.length ≤ 1048576) :
    Calls Tryd.prog 16 #[bv (.slice At nt ct) (.slice Ak nk ck) a b c d e W H x r y, .int .i64 i, v] w (ListPostI (((brdOk ⟨l, m, a, b, c, d, e⟩ W H lt lr ld && onI W H i) && pthB p) && onP W H i p) (hexP W i p) w) := by
  have KA : Kp w (w.alloc (.cells #[.slice At nt ct, .slice Ak nk ck, .int .i64 a, .int .i64 b, .int .i64 c, .int .i64 d, .int .i64 e, .int .i64 W, .int .i64 H, x, r, y] 42)) := (Kp.refl w).alloc _
  have s0 : cb12 (w.alloc (.cells #[.slice At nt ct, .slice Ak nk ck, .int .i64 a, .int .i64 b, .int .i64 c, .int .i64 d, .int .i64 e, .int .i64 W, .int .i64 H, x, r, y] 42)) (w.heap.size) (.slice At nt ct) (.slice Ak nk ck) (.int .i64 a) (.int .i64 b) (.int .i64 c) (.int .i64 d) (.int .i64 e) (.int .i64 W) (.int .i64 H) (x) (r) (y) (Kp w (w.alloc (.cells #[.slice At nt ct, .slice Ak nk ck, .int .i64 a, .int .i64 b, .int .i64 c, .int .i64 d, .int .i64 e, .int .i64 W, .int .i64 H, x, r, y] 42))) := ⟨by simp [go_sem], by simp [go_sem], by simp [go_sem], by simp [go_sem], by simp [go_sem], by simp [go_sem], by simp [go_sem], by simp [go_sem], by simp [go_sem], by simp [go_sem], by simp [go_sem], by simp [go_sem], KA⟩
  have HB := Lib.hid hB
  have HP := Lib.hid hp
  have HPL := Lib.hid hpl
  clear hB hp hpl
  have CA := Lib.hid (fun (w : World) hB => bAt0X_any At Ak nt nk ct ck l m a b c d e W H x r y lt lr ld i w hB)
  cases hg0 : (brdOk ⟨l, m, a, b, c, d, e⟩ W H lt lr ld && onI W H i)
  · rw [hg0] at CA
    clear hg0
    repeat (first | rw [Bool.true_and] | rw [Bool.and_true] | rw [Bool.false_and] | rw [Bool.and_false])
    go_enter Tryd.func16, Tryd.ntmps16
    go_wp2_with fail
    refine (CA.out _ (HB.out.keep s0.2.2.2.2.2.2.2.2.2.2.2.2)).mono ?_
    rintro e1 w1 ⟨rfl, k1⟩
    have s1 := keepq12 k1 s0
    clear s0 k1
    go_wp2_with fail
    go_ret2
    exact ListPostI.no (s1.2.2.2.2.2.2.2.2.2.2.2.2)
  · rw [hg0] at CA
    have hok : brdOk ⟨l, m, a, b, c, d, e⟩ W H lt lr ld = true := by
      simp only [Bool.and_eq_true] at hg0
      exact hg0.1
    have hi : onI W H i = true := by
      simp only [Bool.and_eq_true] at hg0
      exact hg0.2
    obtain ⟨g1, g2, g3, g4⟩ := mapOk_side (brdOk_map hok)
    clear hg0
    have CP := Lib.hid (fun (w : World) h => csPath_any v p w h HPL.out)
    cases hg1 : pthB p
    · rw [hg1] at CP
      clear hg1 hok hi
      repeat (first | rw [Bool.true_and] | rw [Bool.and_true] | rw [Bool.false_and] | rw [Bool.and_false])
      go_enter Tryd.func16, Tryd.ntmps16
      go_wp2_with fail
      refine (CA.out _ (HB.out.keep s0.2.2.2.2.2.2.2.2.2.2.2.2)).mono ?_
      rintro e1 w1 ⟨rfl, k1⟩
      have s1 := keepq12 k1 s0
      clear s0 k1
      go_wp2_with fail
      refine (CP.out _ (HP.out.keep s1.2.2.2.2.2.2.2.2.2.2.2.2)).mono ?_
      rintro e2 w2 ⟨rfl, rfl⟩
      have s2 := s1
      clear s1
      go_wp2_with fail
      go_ret2
      exact ListPostI.no (s2.2.2.2.2.2.2.2.2.2.2.2.2)
    · rw [hg1] at CP
      obtain ⟨hp9, hpd⟩ := pth_dir hg1
      clear hg1
      have CS := Lib.hid (fun (w : World) h => csHexes_any W H x r y i v p w g1 g2 g3 g4 hi hpd h hp9)
      generalize onP W H i p = B at *
      generalize hexP W i p = L at *
      clear hok hi hp9 hpd
      repeat (first | rw [Bool.true_and] | rw [Bool.and_true] | rw [Bool.false_and] | rw [Bool.and_false])
      go_enter Tryd.func16, Tryd.ntmps16
      go_wp2_with fail
      refine (CA.out _ (HB.out.keep s0.2.2.2.2.2.2.2.2.2.2.2.2)).mono ?_
      rintro e1 w1 ⟨rfl, k1⟩
      have s1 := keepq12 k1 s0
      clear s0 k1
      go_wp2_with fail
      refine (CP.out _ (HP.out.keep s1.2.2.2.2.2.2.2.2.2.2.2.2)).mono ?_
      rintro e2 w2 ⟨rfl, rfl⟩
      have s2 := s1
      clear s1
      go_wp2_with fail
      refine (CS.out _ (HP.out.keep s2.2.2.2.2.2.2.2.2.2.2.2.2)).mono ?_
      rintro e9 w9 ⟨v9, rfl, o9, k9⟩
      have O9 := Lib.hid (o9.base (b := w.heap.size) (by have := s2.2.2.2.2.2.2.2.2.2.2.2.2.size; omega))
      clear o9
      go_wp2_with fail
      go_ret2
      exact ⟨_, rfl, O9.out, s2.2.2.2.2.2.2.2.2.2.2.2.2.trans k9⟩

set_option maxRecDepth 100000 in
set_option maxHeartbeats 4000000 in
theorem cheapestStepP_any (At Ak : Option Addr) (nt nk ct ck : Nat) (l : List Ter) (m : List Knd) (a b c d e W H : Int) (x r y : Value) (lt lr ld : List Int) (kx tw i : Int) (w : World) (hs : SpC w) (ht : Tab w) (hB : BrdAt w At Ak nt nk l m x r y lt lr ld) :
    Calls Tryd.prog 24 #[bv (.slice At nt ct) (.slice Ak nk ck) a b c d e W H x r y, .int .i64 kx, .int .i64 tw, .int .i64 i] w fun e' w' => e' = .returned (ib (((brdOk ⟨l, m, a, b, c, d, e⟩ W H lt lr ld && inB kx nk && onI W H i) && spB 0 2 tw) && decide ((chpN (stp l lt lr ld W H b c kx.toNat tw i) 6).2 ≠ 0)) ((chpN (stp l lt lr ld W H b c kx.toNat tw i) 6).1)) ∧ Kp w w' := by
  have KA : Kp w (w.alloc (.cells #[.slice At nt ct, .slice Ak nk ck, .int .i64 a, .int .i64 b, .int .i64 c, .int .i64 d, .int .i64 e, .int .i64 W, .int .i64 H, x, r, y] 42)) := (Kp.refl w).alloc _
  have s0 : cb12 (w.alloc (.cells #[.slice At nt ct, .slice Ak nk ck, .int .i64 a, .int .i64 b, .int .i64 c, .int .i64 d, .int .i64 e, .int .i64 W, .int .i64 H, x, r, y] 42)) (w.heap.size) (.slice At nt ct) (.slice Ak nk ck) (.int .i64 a) (.int .i64 b) (.int .i64 c) (.int .i64 d) (.int .i64 e) (.int .i64 W) (.int .i64 H) (x) (r) (y) (Kp w (w.alloc (.cells #[.slice At nt ct, .slice Ak nk ck, .int .i64 a, .int .i64 b, .int .i64 c, .int .i64 d, .int .i64 e, .int .i64 W, .int .i64 H, x, r, y] 42))) := ⟨by simp [go_sem], by simp [go_sem], by simp [go_sem], by simp [go_sem], by simp [go_sem], by simp [go_sem], by simp [go_sem], by simp [go_sem], by simp [go_sem], by simp [go_sem], by simp [go_sem], by simp [go_sem], KA⟩
  have HB := Lib.hid hB
  have HT := Lib.hid ht
  have HS := Lib.hid hs
  clear hB ht hs
  have CA := Lib.hid (fun (w : World) hs ht hB => isMoverAt_any At Ak nt nk ct ck l m a b c d e W H x r y lt lr ld kx tw i w hs ht hB)
  cases hg0 : ((brdOk ⟨l, m, a, b, c, d, e⟩ W H lt lr ld && inB kx nk && onI W H i) && spB 0 2 tw)
  · rw [hg0] at CA
    clear hg0
    repeat (first | rw [Bool.true_and] | rw [Bool.and_true] | rw [Bool.false_and] | rw [Bool.and_false])
    go_enter Tryd.func24, Tryd.ntmps24
    go_wp2_with fail
    refine (CA.out _ (HS.out.keep s0.2.2.2.2.2.2.2.2.2.2.2.2) (HT.out.keep s0.2.2.2.2.2.2.2.2.2.2.2.2) (HB.out.keep s0.2.2.2.2.2.2.2.2.2.2.2.2)).mono ?_
    rintro e1 w1 ⟨rfl, k1⟩
    have s1 := keepq12 k1 s0
    clear s0 k1
    go_wp2_with fail
    go_ret2
    exact ⟨rfl, s1.2.2.2.2.2.2.2.2.2.2.2.2⟩
  · rw [hg0] at CA
    have hok : brdOk ⟨l, m, a, b, c, d, e⟩ W H lt lr ld = true := by
      simp only [Bool.and_eq_true] at hg0
      exact hg0.1.1.1
    have hkx : inB kx nk = true := by
      simp only [Bool.and_eq_true] at hg0
      exact hg0.1.1.2
    have hi : onI W H i = true := by
      simp only [Bool.and_eq_true] at hg0
      exact hg0.1.2
    have hw : tw = 0 ∨ tw = 1 ∨ tw = 2 := by
      simp only [Bool.and_eq_true] at hg0
      exact wth_true hg0.2
    clear hg0
    obtain ⟨k, rfl, hk0⟩ := inB_at hkx
    have hk : k < m.length := by have := HB.out.R.rk.1; omega
    clear hkx
    rw [show ((k : Int)).toNat = k from rfl]
    have CS := Lib.hid (fun (w : World) ht hB => stepCosts_any At Ak nt nk ct ck l m a b c d e W H x r y lt lr ld k tw i w ht hB hok hk hw)
    have hbd := Lib.hid (fun dd => stp_bd (l := l) (a := a) (d := d) (e := e) (lt := lt) (lr := lr) (ld := ld) hok hk hw i dd)
    generalize stp l lt lr ld W H b c k tw i = F at *
    clear hok hi hw hk0 hk
    repeat (first | rw [Bool.true_and] | rw [Bool.and_true] | rw [Bool.false_and] | rw [Bool.and_false])
    obtain ⟨RA, RB, hRR⟩ : ∃ p q, chpN F 6 = (p, q) := ⟨_, _, rfl⟩
    have HRR := Lib.hid hRR
    rw [hRR]
    clear hRR
    obtain ⟨BB, hBB⟩ : ∃ q, decide ((RA, RB).2 ≠ 0) = q := ⟨_, rfl⟩
    have HBB : Hid (decide (RB ≠ 0) = BB) := Lib.hid hBB
    rw [hBB]
    clear hBB
    go_enter Tryd.func24, Tryd.ntmps24
    go_wp2_with fail
    refine (CA.out _ (HS.out.keep s0.2.2.2.2.2.2.2.2.2.2.2.2) (HT.out.keep s0.2.2.2.2.2.2.2.2.2.2.2.2) (HB.out.keep s0.2.2.2.2.2.2.2.2.2.2.2.2)).mono ?_
    rintro e1 w1 ⟨rfl, k1⟩
    have s1 := keepq12 k1 s0
    clear s0 k1
    go_wp2_with fail
    refine (CS.out _ (HT.out.keep s1.2.2.2.2.2.2.2.2.2.2.2.2) (HB.out.keep s1.2.2.2.2.2.2.2.2.2.2.2.2)).mono ?_
    rintro e9 w9 ⟨v9, rfl, o9, k9⟩
    obtain ⟨A9, c9, e9, h9⟩ := o9.rd
    rw [sixN_len] at e9 h9
    subst e9
    obtain ⟨g9, o9', rfl, hc9⟩ := h9 (by omega)
    have HC := Lib.hid hc9
    have K9 := s1.2.2.2.2.2.2.2.2.2.2.2.2.trans k9
    clear s1 k9 o9 hc9 h9
    go_wp2_with fail
    go_loop [10, 11, 12, 13, 27] (fun sa sb _ _ sq => ∃ q : Nat, q ≤ 6 ∧ sq = .int .i64 q ∧ ∃ X Y : Int, sa = .int .i64 X ∧ sb = .int .i64 Y ∧ Hid (chpN F q = (X, Y))) (fun _ _ _ _ sq => 6 - (intOf sq).toNat)
    case atStart => exact ⟨0, by omega, rfl, 0, 0, rfl, rfl, Lib.hid rfl⟩
    case round =>
      obtain ⟨q, hq, rfl, X, Y, rfl, rfl, HX⟩ := hrel
      by_cases hlt : q < 6
      · have hlt' : (q : Int) < 6 := by omega
        have a0 := HC.out q _ (sixN_at F 6 q hlt)
        have hb := hbd.out (q : Int)
        by_cases h : 0 < F q ∧ (Y = 0 ∨ F q < Y)
        · have HN : Hid (chpN F (q + 1) = ((q : Int), F q)) := Lib.hid (chpN_yes (by rw [HX.out]; exact h))
          obtain ⟨h1, h2⟩ := h
          generalize F q = C at *
          by_cases hy : Y = 0
          · subst hy
            go_wp2_with fail
            go_round
            case rel => exact ⟨q + 1, by omega, by go_num, q, C, rfl, rfl, HN⟩
            case measure => simp [intOf]; omega
          · have hy1 : (Y == 0) = false := by simp [hy]
            have hy2 : C < Y := by omega
            clear h2
            go_wp2_with fail
            go_round
            case rel => exact ⟨q + 1, by omega, by go_num, q, C, rfl, rfl, HN⟩
            case measure => simp [intOf]; omega
        · have HN : Hid (chpN F (q + 1) = (X, Y)) := Lib.hid ((chpN_no (by rw [HX.out]; exact h)).trans HX.out)
          generalize F q = C at *
          by_cases hc : 0 < C
          · have hy : ¬ Y = 0 := fun e => h ⟨hc, .inl e⟩
            have hy1 : (Y == 0) = false := by simp [hy]
            have hy2 : ¬ C < Y := fun e => h ⟨hc, .inr e⟩
            clear h
            go_wp2_with fail
            go_round
            case rel => exact ⟨q + 1, by omega, by go_num, X, Y, rfl, rfl, HN⟩
            case measure => simp [intOf]; omega
          · clear h
            go_wp2_with fail
            go_round
            case rel => exact ⟨q + 1, by omega, by go_num, X, Y, rfl, rfl, HN⟩
            case measure => simp [intOf]; omega
      · obtain rfl : q = 6 := by omega
        obtain ⟨rfl, rfl⟩ : X = RA ∧ Y = RB := by have := HX.out.symm.trans HRR.out; simpa using this
        have hY : 0 ≤ Y := by have := (chpN_bd hbd.out 6).2.2; rw [HX.out] at this; exact this
        have hX : Y = 0 → X = 0 := fun e => by have := chpN_zero (F := F) 6 (by rw [HX.out]; exact e); rw [HX.out] at this; exact this
        by_cases hy : Y = 0
        · have hX0 := hX hy
          subst hy hX0
          clear hX hY
          go_wp2_with fail
          go_ret2
          refine ⟨?_, K9⟩
          rw [← HBB.out]
          rfl
        · have hy2 : 0 < Y := by omega
          have hbb : BB = true := by rw [← HBB.out]; exact decide_eq_true hy
          clear hX hY hy
          go_wp2_with fail
          go_ret2
          refine ⟨?_, K9⟩
          first | rfl | (rw [hbb]; rfl)

set_option maxRecDepth 100000 in
set_option maxHeartbeats 4000000 in
theorem specCheapestStep_any (At Ak : Option Addr) (nt nk ct ck : Nat) (l : List Ter) (m : List Knd) (a b c d e W H : Int) (x r y : Value) (lt lr ld : List Int) (kx tw i : Int) (w : World) (hB : BrdAt w At Ak nt nk l m x r y lt lr ld) :
    Calls Tryd.prog 23 #[bv (.slice At nt ct) (.slice Ak nk ck) a b c d e W H x r y, .int .i64 kx, .int .i64 tw, .int .i64 i] w fun e' w' => e' = .returned (ib (((brdOk ⟨l, m, a, b, c, d, e⟩ W H lt lr ld && inB kx nk && onI W H i) && spB 0 2 tw) && decide ((chpN (stp l lt lr ld W H b c kx.toNat tw i) 6).2 ≠ 0)) ((chpN (stp l lt lr ld W H b c kx.toNat tw i) 6).1)) ∧ Kp w w' := by
  have KA : Kp w (w.alloc (.cells #[.slice At nt ct, .slice Ak nk ck, .int .i64 a, .int .i64 b, .int .i64 c, .int .i64 d, .int .i64 e, .int .i64 W, .int .i64 H, x, r, y] 42)) := (Kp.refl w).alloc _
  have s0 : cb12 (w.alloc (.cells #[.slice At nt ct, .slice Ak nk ck, .int .i64 a, .int .i64 b, .int .i64 c, .int .i64 d, .int .i64 e, .int .i64 W, .int .i64 H, x, r, y] 42)) (w.heap.size) (.slice At nt ct) (.slice Ak nk ck) (.int .i64 a) (.int .i64 b) (.int .i64 c) (.int .i64 d) (.int .i64 e) (.int .i64 W) (.int .i64 H) (x) (r) (y) (Kp w (w.alloc (.cells #[.slice At nt ct, .slice Ak nk ck, .int .i64 a, .int .i64 b, .int .i64 c, .int .i64 d, .int .i64 e, .int .i64 W, .int .i64 H, x, r, y] 42))) := ⟨by simp [go_sem], by simp [go_sem], by simp [go_sem], by simp [go_sem], by simp [go_sem], by simp [go_sem], by simp [go_sem], by simp [go_sem], by simp [go_sem], by simp [go_sem], by simp [go_sem], by simp [go_sem], KA⟩
  have HB := Lib.hid hB
  clear hB
  have CA := Lib.hid (fun (w : World) hB => csInput_any At Ak nt nk ct ck l m a b c d e W H x r y lt lr ld kx tw i w hB)
  cases hg0 : ((brdOk ⟨l, m, a, b, c, d, e⟩ W H lt lr ld && inB kx nk && onI W H i) && spB 0 2 tw)
  · rw [hg0] at CA
    clear hg0
    repeat (first | rw [Bool.true_and] | rw [Bool.and_true] | rw [Bool.false_and] | rw [Bool.and_false])
    go_enter Tryd.func23, Tryd.ntmps23
    go_wp2_with fail
    refine (CA.out _ (HB.out.keep s0.2.2.2.2.2.2.2.2.2.2.2.2)).mono ?_
    rintro e1 w1 ⟨rfl, k1⟩
    have s1 := keepq12 k1 s0
    clear s0 k1
    go_wp2_with fail
    go_ret2
    exact ⟨rfl, s1.2.2.2.2.2.2.2.2.2.2.2.2⟩
  · rw [hg0] at CA
    have hok : brdOk ⟨l, m, a, b, c, d, e⟩ W H lt lr ld = true := by
      simp only [Bool.and_eq_true] at hg0
      exact hg0.1.1.1
    have hkx : inB kx nk = true := by
      simp only [Bool.and_eq_true] at hg0
      exact hg0.1.1.2
    have hi : onI W H i = true := by
      simp only [Bool.and_eq_true] at hg0
      exact hg0.1.2
    have hw : tw = 0 ∨ tw = 1 ∨ tw = 2 := by
      simp only [Bool.and_eq_true] at hg0
      exact wth_true hg0.2
    clear hg0
    obtain ⟨k, rfl, hk0⟩ := inB_at hkx
    have hk : k < m.length := by have := HB.out.R.rk.1; omega
    clear hkx
    rw [show ((k : Int)).toNat = k from rfl]
    have CS := Lib.hid (fun (w : World) hB => csAll_any At Ak nt nk ct ck l m a b c d e W H x r y lt lr ld k tw i w hB hok hk hw hi)
    have hbd := Lib.hid (fun dd => stp_bd (l := l) (a := a) (d := d) (e := e) (lt := lt) (lr := lr) (ld := ld) hok hk hw i dd)
    generalize stp l lt lr ld W H b c k tw i = F at *
    clear hok hi hw hk0 hk
    repeat (first | rw [Bool.true_and] | rw [Bool.and_true] | rw [Bool.false_and] | rw [Bool.and_false])
    obtain ⟨RA, RB, hRR⟩ : ∃ p q, chpN F 6 = (p, q) := ⟨_, _, rfl⟩
    have HRR := Lib.hid hRR
    rw [hRR]
    clear hRR
    obtain ⟨BB, hBB⟩ : ∃ q, decide ((RA, RB).2 ≠ 0) = q := ⟨_, rfl⟩
    have HBB : Hid (decide (RB ≠ 0) = BB) := Lib.hid hBB
    rw [hBB]
    clear hBB
    go_enter Tryd.func23, Tryd.ntmps23
    go_wp2_with fail
    refine (CA.out _ (HB.out.keep s0.2.2.2.2.2.2.2.2.2.2.2.2)).mono ?_
    rintro e1 w1 ⟨rfl, k1⟩
    have s1 := keepq12 k1 s0
    clear s0 k1
    go_wp2_with fail
    refine (CS.out _ (HB.out.keep s1.2.2.2.2.2.2.2.2.2.2.2.2)).mono ?_
    rintro e9 w9 ⟨v9, rfl, o9, k9⟩
    obtain ⟨A9, c9, e9, h9⟩ := o9.rd
    rw [sixN_len] at e9 h9
    subst e9
    obtain ⟨g9, o9', rfl, hc9⟩ := h9 (by omega)
    have HC := Lib.hid hc9
    have K9 := s1.2.2.2.2.2.2.2.2.2.2.2.2.trans k9
    clear s1 k9 o9 hc9 h9
    go_wp2_with fail
    go_loop [11, 12, 13, 27] (fun sa _ _ sq => ∃ q : Nat, q ≤ 6 ∧ sq = .int .i64 q ∧ ∃ X : Int, sa = .int .i64 X ∧ Hid (X = chpS F q)) (fun _ _ _ sq => 6 - (intOf sq).toNat)
    case atStart => exact ⟨0, by omega, rfl, -1, rfl, Lib.hid rfl⟩
    case round =>
      obtain ⟨q, hq, rfl, X, rfl, HX⟩ := hrel
      by_cases hlt : q < 6
      · have hlt' : (q : Int) < 6 := by omega
        have a0 := HC.out q _ (sixN_at F 6 q hlt)
        have hb := hbd.out (q : Int)
        have hYb := (chpN_bd hbd.out q).2.2
        by_cases hy : (chpN F q).2 = 0
        · have hX : X = -1 := by rw [HX.out, chpS, if_pos hy]
          subst hX
          by_cases hc : 0 < F q
          · have HN : Hid ((q : Int) = chpS F (q + 1)) := Lib.hid (by rw [chpS, chpN_yes ⟨hc, .inl hy⟩, if_neg (by simp only; omega)])
            generalize F q = C at *
            clear hy hYb
            go_wp2_with fail
            go_round
            case rel => exact ⟨q + 1, by omega, by go_num, q, rfl, HN⟩
            case measure => simp [intOf]; omega
          · have HN : Hid ((-1 : Int) = chpS F (q + 1)) := Lib.hid (by rw [chpS, chpN_no (fun h => hc h.1), if_pos hy])
            generalize F q = C at *
            clear hy hYb
            go_wp2_with fail
            go_round
            case rel => exact ⟨q + 1, by omega, by go_num, -1, rfl, HN⟩
            case measure => simp [intOf]; omega
        · obtain ⟨z, hz, hz1, hz2⟩ := chpN_at q hy
          have hX : X = z := by rw [HX.out, chpS, if_neg hy, hz1]
          subst hX
          have a1 := HC.out z _ (sixN_at F 6 z (by omega))
          rw [hz2] at hy
          have hz0 : ¬ (z : Int) < 0 := by omega
          by_cases hc : 0 < F q
          · by_cases hl : F q < F z
            · have HN : Hid ((q : Int) = chpS F (q + 1)) := Lib.hid (by rw [chpS, chpN_yes ⟨hc, .inr (by rw [hz2]; exact hl)⟩, if_neg (by simp only; omega)])
              generalize F q = C at *
              generalize F z = Y at *
              clear hy hYb hz1 hz2
              go_wp2_with fail
              go_round
              case rel => exact ⟨q + 1, by omega, by go_num, q, rfl, HN⟩
              case measure => simp [intOf]; omega
            · have HN : Hid ((z : Int) = chpS F (q + 1)) := Lib.hid (by rw [chpS, chpN_no (fun h => by rcases h.2 with h1 | h1; exact hy (hz2 ▸ h1); rw [hz2] at h1; exact hl h1), if_neg (by rw [hz2]; exact hy), hz1])
              generalize F q = C at *
              generalize F z = Y at *
              clear hy hYb hz1 hz2
              go_wp2_with fail
              go_round
              case rel => exact ⟨q + 1, by omega, by go_num, z, rfl, HN⟩
              case measure => simp [intOf]; omega
          · have HN : Hid ((z : Int) = chpS F (q + 1)) := Lib.hid (by rw [chpS, chpN_no (fun h => hc h.1), if_neg (by rw [hz2]; exact hy), hz1])
            generalize F q = C at *
            generalize F z = Y at *
            clear hy hYb hz1 hz2
            go_wp2_with fail
            go_round
            case rel => exact ⟨q + 1, by omega, by go_num, z, rfl, HN⟩
            case measure => simp [intOf]; omega
      · obtain rfl : q = 6 := by omega
        have hRA := (chpN_bd hbd.out 6).1
        rw [HRR.out] at hRA
        simp only at hRA
        by_cases hy : RB = 0
        · have hX : X = -1 := by rw [HX.out, chpS, HRR.out, if_pos hy]
          subst hX
          have hbb : BB = false := by rw [← HBB.out]; exact decide_eq_false (fun h => h hy)
          clear hy hRA
          go_wp2_with fail
          go_ret2
          refine ⟨?_, K9⟩
          first | rfl | (rw [hbb]; rfl)
        · have hX : X = RA := by rw [HX.out, chpS, HRR.out, if_neg hy]
          subst hX
          have hbb : BB = true := by rw [← HBB.out]; exact decide_eq_true hy
          have hX0 : ¬ X < 0 := by omega
          clear hy hRA
          go_wp2_with fail
          go_ret2
          refine ⟨?_, K9⟩
          first | rfl | (rw [hbb]; rfl)

end Go.Proofs.YtngifnnpimfimaaDoor
