/-
  The reference's tests of boards; open hexes and unused terrains as both sides hand them back. Nothing that was there is changed. The named variables hold what the program's text lays.
-/
import Derived.Test.YtkkcnofplddbmaaDoorBrdJ
namespace Go.Proofs.YtkkcnofplddbmaaDoor
open Go.RowKit

set_option maxRecDepth 100000 in
set_option maxHeartbeats 4000000 in
theorem bGood_any (At Ak : Option Addr) (nt nk ct ck : Nat) (l : List Ter) (m : List Knd) (a b c d e W H : Int) (x r y : Value) (lt lr ld : List Int) (w : World) (hB : BrdAt w At Ak nt nk l m x r y lt lr ld) :
    Calls Tryd.prog 63 #[bv (.slice At nt ct) (.slice Ak nk ck) a b c d e W H x r y] w fun e' w' => e' = .returned (.bool (brdOk ⟨l, m, a, b, c, d, e⟩ W H lt lr ld)) ∧ Kp w w' := by
  have KA : Kp w (w.alloc (.cells #[.slice At nt ct, .slice Ak nk ck, .int .i64 a, .int .i64 b, .int .i64 c, .int .i64 d, .int .i64 e, .int .i64 W, .int .i64 H, x, r, y] 44)) := (Kp.refl w).alloc _
  have s0 : (w.alloc (.cells #[.slice At nt ct, .slice Ak nk ck, .int .i64 a, .int .i64 b, .int .i64 c, .int .i64 d, .int .i64 e, .int .i64 W, .int .i64 H, x, r, y] 44)).cell? ⟨w.heap.size, 0, none⟩ = some (.slice At nt ct) ∧ (w.alloc (.cells #[.slice At nt ct, .slice Ak nk ck, .int .i64 a, .int .i64 b, .int .i64 c, .int .i64 d, .int .i64 e, .int .i64 W, .int .i64 H, x, r, y] 44)).cell? ⟨w.heap.size, 1, none⟩ = some (.slice Ak nk ck) ∧ (w.alloc (.cells #[.slice At nt ct, .slice Ak nk ck, .int .i64 a, .int .i64 b, .int .i64 c, .int .i64 d, .int .i64 e, .int .i64 W, .int .i64 H, x, r, y] 44)).cell? ⟨w.heap.size, 2, none⟩ = some (.int .i64 a) ∧ (w.alloc (.cells #[.slice At nt ct, .slice Ak nk ck, .int .i64 a, .int .i64 b, .int .i64 c, .int .i64 d, .int .i64 e, .int .i64 W, .int .i64 H, x, r, y] 44)).cell? ⟨w.heap.size, 3, none⟩ = some (.int .i64 b) ∧ (w.alloc (.cells #[.slice At nt ct, .slice Ak nk ck, .int .i64 a, .int .i64 b, .int .i64 c, .int .i64 d, .int .i64 e, .int .i64 W, .int .i64 H, x, r, y] 44)).cell? ⟨w.heap.size, 4, none⟩ = some (.int .i64 c) ∧ (w.alloc (.cells #[.slice At nt ct, .slice Ak nk ck, .int .i64 a, .int .i64 b, .int .i64 c, .int .i64 d, .int .i64 e, .int .i64 W, .int .i64 H, x, r, y] 44)).cell? ⟨w.heap.size, 5, none⟩ = some (.int .i64 d) ∧ (w.alloc (.cells #[.slice At nt ct, .slice Ak nk ck, .int .i64 a, .int .i64 b, .int .i64 c, .int .i64 d, .int .i64 e, .int .i64 W, .int .i64 H, x, r, y] 44)).cell? ⟨w.heap.size, 6, none⟩ = some (.int .i64 e) ∧ (w.alloc (.cells #[.slice At nt ct, .slice Ak nk ck, .int .i64 a, .int .i64 b, .int .i64 c, .int .i64 d, .int .i64 e, .int .i64 W, .int .i64 H, x, r, y] 44)).cell? ⟨w.heap.size, 7, none⟩ = some (.int .i64 W) ∧ (w.alloc (.cells #[.slice At nt ct, .slice Ak nk ck, .int .i64 a, .int .i64 b, .int .i64 c, .int .i64 d, .int .i64 e, .int .i64 W, .int .i64 H, x, r, y] 44)).cell? ⟨w.heap.size, 8, none⟩ = some (.int .i64 H) ∧ (w.alloc (.cells #[.slice At nt ct, .slice Ak nk ck, .int .i64 a, .int .i64 b, .int .i64 c, .int .i64 d, .int .i64 e, .int .i64 W, .int .i64 H, x, r, y] 44)).cell? ⟨w.heap.size, 9, none⟩ = some (x) ∧ (w.alloc (.cells #[.slice At nt ct, .slice Ak nk ck, .int .i64 a, .int .i64 b, .int .i64 c, .int .i64 d, .int .i64 e, .int .i64 W, .int .i64 H, x, r, y] 44)).cell? ⟨w.heap.size, 10, none⟩ = some (r) ∧ (w.alloc (.cells #[.slice At nt ct, .slice Ak nk ck, .int .i64 a, .int .i64 b, .int .i64 c, .int .i64 d, .int .i64 e, .int .i64 W, .int .i64 H, x, r, y] 44)).cell? ⟨w.heap.size, 11, none⟩ = some (y) ∧ Kp w (w.alloc (.cells #[.slice At nt ct, .slice Ak nk ck, .int .i64 a, .int .i64 b, .int .i64 c, .int .i64 d, .int .i64 e, .int .i64 W, .int .i64 H, x, r, y] 44)) := ⟨by simp [go_sem], by simp [go_sem], by simp [go_sem], by simp [go_sem], by simp [go_sem], by simp [go_sem], by simp [go_sem], by simp [go_sem], by simp [go_sem], by simp [go_sem], by simp [go_sem], by simp [go_sem], KA⟩
  have HB := Lib.hid hB
  have C1 := Lib.hid (rGood_any At Ak nt nk ct ck l m a b c d e _ (hB.R.keep KA))
  have hl := hB.R.rt.1
  have e0 : brdOk ⟨l, m, a, b, c, d, e⟩ W H lt lr ld = ((rulOk ⟨l, m, a, b, c, d, e⟩ && mapOk W H lt lr ld) && lt.all (spB 0 ((nt : Int) - 1))) := by
    unfold brdOk
    rw [← hl]
  have hbt := hB.R.bt
  rw [e0]
  cases hr : rulOk ⟨l, m, a, b, c, d, e⟩
  · rw [hr] at C1
    clear hB hr e0 hl
    go_enter Tryd.func63, Tryd.ntmps63
    go_wp2_with fail
    refine C1.out.mono ?_
    rintro e1 w1 ⟨rfl, k1⟩
    go_wp2_with fail
    go_ret
    exact ⟨rfl, KA.trans k1⟩
  · rw [hr] at C1
    have CM := Lib.hid (fun w h => mGood_any W H x r y lt lr ld w h)
    cases hm : mapOk W H lt lr ld
    · rw [hm] at CM
      clear hB hr hm e0 hl
      go_enter Tryd.func63, Tryd.ntmps63
      go_wp2_with fail
      refine C1.out.mono ?_
      rintro e1 w1 ⟨rfl, k1⟩
      have s1 : w1.cell? ⟨w.heap.size, 0, none⟩ = some (.slice At nt ct) ∧ w1.cell? ⟨w.heap.size, 1, none⟩ = some (.slice Ak nk ck) ∧ w1.cell? ⟨w.heap.size, 2, none⟩ = some (.int .i64 a) ∧ w1.cell? ⟨w.heap.size, 3, none⟩ = some (.int .i64 b) ∧ w1.cell? ⟨w.heap.size, 4, none⟩ = some (.int .i64 c) ∧ w1.cell? ⟨w.heap.size, 5, none⟩ = some (.int .i64 d) ∧ w1.cell? ⟨w.heap.size, 6, none⟩ = some (.int .i64 e) ∧ w1.cell? ⟨w.heap.size, 7, none⟩ = some (.int .i64 W) ∧ w1.cell? ⟨w.heap.size, 8, none⟩ = some (.int .i64 H) ∧ w1.cell? ⟨w.heap.size, 9, none⟩ = some (x) ∧ w1.cell? ⟨w.heap.size, 10, none⟩ = some (r) ∧ w1.cell? ⟨w.heap.size, 11, none⟩ = some (y) ∧ Kp w w1 := ⟨k1.cell s0.1, k1.cell s0.2.1, k1.cell s0.2.2.1, k1.cell s0.2.2.2.1, k1.cell s0.2.2.2.2.1, k1.cell s0.2.2.2.2.2.1, k1.cell s0.2.2.2.2.2.2.1, k1.cell s0.2.2.2.2.2.2.2.1, k1.cell s0.2.2.2.2.2.2.2.2.1, k1.cell s0.2.2.2.2.2.2.2.2.2.1, k1.cell s0.2.2.2.2.2.2.2.2.2.2.1, k1.cell s0.2.2.2.2.2.2.2.2.2.2.2.1, s0.2.2.2.2.2.2.2.2.2.2.2.2.trans k1⟩
      clear s0 k1
      go_wp2_with fail
      refine (CM.out _ (HB.out.keep s1.2.2.2.2.2.2.2.2.2.2.2.2).L).mono ?_
      rintro e2 w2 ⟨rfl, k2⟩
      go_wp2_with fail
      go_ret
      exact ⟨rfl, s1.2.2.2.2.2.2.2.2.2.2.2.2.trans k2⟩
    · rw [hm] at CM
      clear hB hr hm e0 hl
      go_enter Tryd.func63, Tryd.ntmps63
      go_wp2_with fail
      refine C1.out.mono ?_
      rintro e1 w1 ⟨rfl, k1⟩
      have s1 : w1.cell? ⟨w.heap.size, 0, none⟩ = some (.slice At nt ct) ∧ w1.cell? ⟨w.heap.size, 1, none⟩ = some (.slice Ak nk ck) ∧ w1.cell? ⟨w.heap.size, 2, none⟩ = some (.int .i64 a) ∧ w1.cell? ⟨w.heap.size, 3, none⟩ = some (.int .i64 b) ∧ w1.cell? ⟨w.heap.size, 4, none⟩ = some (.int .i64 c) ∧ w1.cell? ⟨w.heap.size, 5, none⟩ = some (.int .i64 d) ∧ w1.cell? ⟨w.heap.size, 6, none⟩ = some (.int .i64 e) ∧ w1.cell? ⟨w.heap.size, 7, none⟩ = some (.int .i64 W) ∧ w1.cell? ⟨w.heap.size, 8, none⟩ = some (.int .i64 H) ∧ w1.cell? ⟨w.heap.size, 9, none⟩ = some (x) ∧ w1.cell? ⟨w.heap.size, 10, none⟩ = some (r) ∧ w1.cell? ⟨w.heap.size, 11, none⟩ = some (y) ∧ Kp w w1 := ⟨k1.cell s0.1, k1.cell s0.2.1, k1.cell s0.2.2.1, k1.cell s0.2.2.2.1, k1.cell s0.2.2.2.2.1, k1.cell s0.2.2.2.2.2.1, k1.cell s0.2.2.2.2.2.2.1, k1.cell s0.2.2.2.2.2.2.2.1, k1.cell s0.2.2.2.2.2.2.2.2.1, k1.cell s0.2.2.2.2.2.2.2.2.2.1, k1.cell s0.2.2.2.2.2.2.2.2.2.2.1, k1.cell s0.2.2.2.2.2.2.2.2.2.2.2.1, s0.2.2.2.2.2.2.2.2.2.2.2.2.trans k1⟩
      clear s0 k1
      go_wp2_with fail
      refine (CM.out _ (HB.out.keep s1.2.2.2.2.2.2.2.2.2.2.2.2).L).mono ?_
      rintro e2 w2 ⟨rfl, k2⟩
      have s2 : w2.cell? ⟨w.heap.size, 0, none⟩ = some (.slice At nt ct) ∧ w2.cell? ⟨w.heap.size, 1, none⟩ = some (.slice Ak nk ck) ∧ w2.cell? ⟨w.heap.size, 2, none⟩ = some (.int .i64 a) ∧ w2.cell? ⟨w.heap.size, 3, none⟩ = some (.int .i64 b) ∧ w2.cell? ⟨w.heap.size, 4, none⟩ = some (.int .i64 c) ∧ w2.cell? ⟨w.heap.size, 5, none⟩ = some (.int .i64 d) ∧ w2.cell? ⟨w.heap.size, 6, none⟩ = some (.int .i64 e) ∧ w2.cell? ⟨w.heap.size, 7, none⟩ = some (.int .i64 W) ∧ w2.cell? ⟨w.heap.size, 8, none⟩ = some (.int .i64 H) ∧ w2.cell? ⟨w.heap.size, 9, none⟩ = some (x) ∧ w2.cell? ⟨w.heap.size, 10, none⟩ = some (r) ∧ w2.cell? ⟨w.heap.size, 11, none⟩ = some (y) ∧ Kp w w2 := ⟨k2.cell s1.1, k2.cell s1.2.1, k2.cell s1.2.2.1, k2.cell s1.2.2.2.1, k2.cell s1.2.2.2.2.1, k2.cell s1.2.2.2.2.2.1, k2.cell s1.2.2.2.2.2.2.1, k2.cell s1.2.2.2.2.2.2.2.1, k2.cell s1.2.2.2.2.2.2.2.2.1, k2.cell s1.2.2.2.2.2.2.2.2.2.1, k2.cell s1.2.2.2.2.2.2.2.2.2.2.1, k2.cell s1.2.2.2.2.2.2.2.2.2.2.2.1, s1.2.2.2.2.2.2.2.2.2.2.2.2.trans k2⟩
      clear s1 k2
      go_wp2_with fail
      refine (l1All_sp _ lt _ _ _ (HB.out.keep s2.2.2.2.2.2.2.2.2.2.2.2.2).L.rt HB.out.L.bt).mono ?_
      rintro e3 w3 ⟨rfl, rfl⟩
      go_wp2_with fail
      go_ret
      exact ⟨ret_bool (by simp), s2.2.2.2.2.2.2.2.2.2.2.2.2⟩
theorem specIsBoard_any (At Ak : Option Addr) (nt nk ct ck : Nat) (l : List Ter) (m : List Knd) (a b c d e W H : Int) (x r y : Value) (lt lr ld : List Int) (w : World) (hB : BrdAt w At Ak nt nk l m x r y lt lr ld) :
    Calls Tryd.prog 19 #[bv (.slice At nt ct) (.slice Ak nk ck) a b c d e W H x r y] w fun e' w' => e' = .returned (.bool (brdOk ⟨l, m, a, b, c, d, e⟩ W H lt lr ld)) ∧ Kp w w' := by
  have KA : Kp w (w.alloc (.cells #[.slice At nt ct, .slice Ak nk ck, .int .i64 a, .int .i64 b, .int .i64 c, .int .i64 d, .int .i64 e, .int .i64 W, .int .i64 H, x, r, y] 44)) := (Kp.refl w).alloc _
  have C1 := Lib.hid (bGood_any At Ak nt nk ct ck l m a b c d e W H x r y lt lr ld _ (hB.keep KA))
  generalize brdOk ⟨l, m, a, b, c, d, e⟩ W H lt lr ld = B at C1 ⊢
  clear hB
  go_enter Tryd.func19, Tryd.ntmps19
  go_wp2_with fail
  refine C1.out.mono ?_
  rintro e1 w1 ⟨rfl, k1⟩
  go_wp2_with fail
  go_ret
  exact ⟨rfl, KA.trans k1⟩

set_option maxRecDepth 100000 in
set_option maxHeartbeats 4000000 in
theorem bAt_any (At Ak : Option Addr) (nt nk ct ck : Nat) (l : List Ter) (m : List Knd) (a b c d e W H : Int) (x r y : Value) (lt lr ld : List Int) (k i : Int) (w : World) (hB : BrdAt w At Ak nt nk l m x r y lt lr ld) :
    Calls Tryd.prog 67 #[bv (.slice At nt ct) (.slice Ak nk ck) a b c d e W H x r y, .int .i64 k, .int .i64 i] w fun e' w' => e' = .returned (.bool (brdOk ⟨l, m, a, b, c, d, e⟩ W H lt lr ld && inB k nk && onI W H i)) ∧ Kp w w' := by
  have KA : Kp w (w.alloc (.cells #[.slice At nt ct, .slice Ak nk ck, .int .i64 a, .int .i64 b, .int .i64 c, .int .i64 d, .int .i64 e, .int .i64 W, .int .i64 H, x, r, y] 44)) := (Kp.refl w).alloc _
  have s0 : (w.alloc (.cells #[.slice At nt ct, .slice Ak nk ck, .int .i64 a, .int .i64 b, .int .i64 c, .int .i64 d, .int .i64 e, .int .i64 W, .int .i64 H, x, r, y] 44)).cell? ⟨w.heap.size, 0, none⟩ = some (.slice At nt ct) ∧ (w.alloc (.cells #[.slice At nt ct, .slice Ak nk ck, .int .i64 a, .int .i64 b, .int .i64 c, .int .i64 d, .int .i64 e, .int .i64 W, .int .i64 H, x, r, y] 44)).cell? ⟨w.heap.size, 1, none⟩ = some (.slice Ak nk ck) ∧ (w.alloc (.cells #[.slice At nt ct, .slice Ak nk ck, .int .i64 a, .int .i64 b, .int .i64 c, .int .i64 d, .int .i64 e, .int .i64 W, .int .i64 H, x, r, y] 44)).cell? ⟨w.heap.size, 2, none⟩ = some (.int .i64 a) ∧ (w.alloc (.cells #[.slice At nt ct, .slice Ak nk ck, .int .i64 a, .int .i64 b, .int .i64 c, .int .i64 d, .int .i64 e, .int .i64 W, .int .i64 H, x, r, y] 44)).cell? ⟨w.heap.size, 3, none⟩ = some (.int .i64 b) ∧ (w.alloc (.cells #[.slice At nt ct, .slice Ak nk ck, .int .i64 a, .int .i64 b, .int .i64 c, .int .i64 d, .int .i64 e, .int .i64 W, .int .i64 H, x, r, y] 44)).cell? ⟨w.heap.size, 4, none⟩ = some (.int .i64 c) ∧ (w.alloc (.cells #[.slice At nt ct, .slice Ak nk ck, .int .i64 a, .int .i64 b, .int .i64 c, .int .i64 d, .int .i64 e, .int .i64 W, .int .i64 H, x, r, y] 44)).cell? ⟨w.heap.size, 5, none⟩ = some (.int .i64 d) ∧ (w.alloc (.cells #[.slice At nt ct, .slice Ak nk ck, .int .i64 a, .int .i64 b, .int .i64 c, .int .i64 d, .int .i64 e, .int .i64 W, .int .i64 H, x, r, y] 44)).cell? ⟨w.heap.size, 6, none⟩ = some (.int .i64 e) ∧ (w.alloc (.cells #[.slice At nt ct, .slice Ak nk ck, .int .i64 a, .int .i64 b, .int .i64 c, .int .i64 d, .int .i64 e, .int .i64 W, .int .i64 H, x, r, y] 44)).cell? ⟨w.heap.size, 7, none⟩ = some (.int .i64 W) ∧ (w.alloc (.cells #[.slice At nt ct, .slice Ak nk ck, .int .i64 a, .int .i64 b, .int .i64 c, .int .i64 d, .int .i64 e, .int .i64 W, .int .i64 H, x, r, y] 44)).cell? ⟨w.heap.size, 8, none⟩ = some (.int .i64 H) ∧ (w.alloc (.cells #[.slice At nt ct, .slice Ak nk ck, .int .i64 a, .int .i64 b, .int .i64 c, .int .i64 d, .int .i64 e, .int .i64 W, .int .i64 H, x, r, y] 44)).cell? ⟨w.heap.size, 9, none⟩ = some (x) ∧ (w.alloc (.cells #[.slice At nt ct, .slice Ak nk ck, .int .i64 a, .int .i64 b, .int .i64 c, .int .i64 d, .int .i64 e, .int .i64 W, .int .i64 H, x, r, y] 44)).cell? ⟨w.heap.size, 10, none⟩ = some (r) ∧ (w.alloc (.cells #[.slice At nt ct, .slice Ak nk ck, .int .i64 a, .int .i64 b, .int .i64 c, .int .i64 d, .int .i64 e, .int .i64 W, .int .i64 H, x, r, y] 44)).cell? ⟨w.heap.size, 11, none⟩ = some (y) ∧ Kp w (w.alloc (.cells #[.slice At nt ct, .slice Ak nk ck, .int .i64 a, .int .i64 b, .int .i64 c, .int .i64 d, .int .i64 e, .int .i64 W, .int .i64 H, x, r, y] 44)) := ⟨by simp [go_sem], by simp [go_sem], by simp [go_sem], by simp [go_sem], by simp [go_sem], by simp [go_sem], by simp [go_sem], by simp [go_sem], by simp [go_sem], by simp [go_sem], by simp [go_sem], by simp [go_sem], KA⟩
  have HB := Lib.hid hB
  have C1 := Lib.hid (bGood_any At Ak nt nk ct ck l m a b c d e W H x r y lt lr ld _ (hB.keep KA))
  cases ho : brdOk ⟨l, m, a, b, c, d, e⟩ W H lt lr ld
  · rw [ho] at C1
    clear hB ho
    go_enter Tryd.func67, Tryd.ntmps67
    go_wp2_with fail
    refine C1.out.mono ?_
    rintro e1 w1 ⟨rfl, k1⟩
    go_wp2_with fail
    go_ret
    exact ⟨rfl, KA.trans k1⟩
  · rw [ho] at C1
    obtain ⟨h1, h2, h3, h4⟩ := mapOk_side (brdOk_map ho)
    have hA := area_bd h1 h2 h3 h4
    have hbk := hB.R.bk
    have CL : Hid (∀ w, Calls Tryd.prog 91 #[.int .i64 k, .int .i64 0, .int .i64 ((nk : Int) - 1)] w fun e w' => e = .returned (.bool (inB k nk)) ∧ w = w') := Lib.hid fun w => l1In_lt k nk _ w rfl
    have CI : Hid (∀ w, Calls Tryd.prog 91 #[.int .i64 i, .int .i64 0, .int .i64 (W * H - 1)] w fun e w' => e = .returned (.bool (onI W H i)) ∧ w = w') := Lib.hid fun w => l1In_lt i (W * H) _ w rfl
    have CS := Lib.hid (fun w => mSize_any W H x r y w h1 h2 h3 h4)
    cases hk : inB k nk
    · rw [hk] at CL
      clear hB ho hk h1 h2 h3 h4 hA
      go_enter Tryd.func67, Tryd.ntmps67
      go_wp2_with fail
      refine C1.out.mono ?_
      rintro e1 w1 ⟨rfl, k1⟩
      have s1 : w1.cell? ⟨w.heap.size, 0, none⟩ = some (.slice At nt ct) ∧ w1.cell? ⟨w.heap.size, 1, none⟩ = some (.slice Ak nk ck) ∧ w1.cell? ⟨w.heap.size, 2, none⟩ = some (.int .i64 a) ∧ w1.cell? ⟨w.heap.size, 3, none⟩ = some (.int .i64 b) ∧ w1.cell? ⟨w.heap.size, 4, none⟩ = some (.int .i64 c) ∧ w1.cell? ⟨w.heap.size, 5, none⟩ = some (.int .i64 d) ∧ w1.cell? ⟨w.heap.size, 6, none⟩ = some (.int .i64 e) ∧ w1.cell? ⟨w.heap.size, 7, none⟩ = some (.int .i64 W) ∧ w1.cell? ⟨w.heap.size, 8, none⟩ = some (.int .i64 H) ∧ w1.cell? ⟨w.heap.size, 9, none⟩ = some (x) ∧ w1.cell? ⟨w.heap.size, 10, none⟩ = some (r) ∧ w1.cell? ⟨w.heap.size, 11, none⟩ = some (y) ∧ Kp w w1 := ⟨k1.cell s0.1, k1.cell s0.2.1, k1.cell s0.2.2.1, k1.cell s0.2.2.2.1, k1.cell s0.2.2.2.2.1, k1.cell s0.2.2.2.2.2.1, k1.cell s0.2.2.2.2.2.2.1, k1.cell s0.2.2.2.2.2.2.2.1, k1.cell s0.2.2.2.2.2.2.2.2.1, k1.cell s0.2.2.2.2.2.2.2.2.2.1, k1.cell s0.2.2.2.2.2.2.2.2.2.2.1, k1.cell s0.2.2.2.2.2.2.2.2.2.2.2.1, s0.2.2.2.2.2.2.2.2.2.2.2.2.trans k1⟩
      clear s0 k1
      go_wp2_with fail
      refine (CL.out _).mono ?_
      rintro e2 w2 ⟨rfl, rfl⟩
      go_wp2_with fail
      go_ret
      exact ⟨rfl, s1.2.2.2.2.2.2.2.2.2.2.2.2⟩
    · rw [hk] at CL
      clear hB ho hk h1 h2 h3 h4
      go_enter Tryd.func67, Tryd.ntmps67
      go_wp2_with fail
      refine C1.out.mono ?_
      rintro e1 w1 ⟨rfl, k1⟩
      have s1 : w1.cell? ⟨w.heap.size, 0, none⟩ = some (.slice At nt ct) ∧ w1.cell? ⟨w.heap.size, 1, none⟩ = some (.slice Ak nk ck) ∧ w1.cell? ⟨w.heap.size, 2, none⟩ = some (.int .i64 a) ∧ w1.cell? ⟨w.heap.size, 3, none⟩ = some (.int .i64 b) ∧ w1.cell? ⟨w.heap.size, 4, none⟩ = some (.int .i64 c) ∧ w1.cell? ⟨w.heap.size, 5, none⟩ = some (.int .i64 d) ∧ w1.cell? ⟨w.heap.size, 6, none⟩ = some (.int .i64 e) ∧ w1.cell? ⟨w.heap.size, 7, none⟩ = some (.int .i64 W) ∧ w1.cell? ⟨w.heap.size, 8, none⟩ = some (.int .i64 H) ∧ w1.cell? ⟨w.heap.size, 9, none⟩ = some (x) ∧ w1.cell? ⟨w.heap.size, 10, none⟩ = some (r) ∧ w1.cell? ⟨w.heap.size, 11, none⟩ = some (y) ∧ Kp w w1 := ⟨k1.cell s0.1, k1.cell s0.2.1, k1.cell s0.2.2.1, k1.cell s0.2.2.2.1, k1.cell s0.2.2.2.2.1, k1.cell s0.2.2.2.2.2.1, k1.cell s0.2.2.2.2.2.2.1, k1.cell s0.2.2.2.2.2.2.2.1, k1.cell s0.2.2.2.2.2.2.2.2.1, k1.cell s0.2.2.2.2.2.2.2.2.2.1, k1.cell s0.2.2.2.2.2.2.2.2.2.2.1, k1.cell s0.2.2.2.2.2.2.2.2.2.2.2.1, s0.2.2.2.2.2.2.2.2.2.2.2.2.trans k1⟩
      clear s0 k1
      go_wp2_with fail
      refine (CL.out _).mono ?_
      rintro e2 w2 ⟨rfl, rfl⟩
      go_wp2_with fail
      refine (CS.out _).mono ?_
      rintro e3 w3 ⟨rfl, k3⟩
      go_wp2_with fail
      refine (CI.out _).mono ?_
      rintro e4 w4 ⟨rfl, rfl⟩
      go_wp2_with fail
      go_ret
      exact ⟨ret_bool (by simp), s1.2.2.2.2.2.2.2.2.2.2.2.2.trans k3⟩

theorem onI_zero {W H : Int} (a : 1 ≤ W) (c : 1 ≤ H) : onI W H 0 = true := by
  have : 1 ≤ W * H := by
    have := Int.mul_le_mul a c (by omega) (by omega)
    omega
  simp [onI]
  omega

set_option maxRecDepth 100000 in
set_option maxHeartbeats 4000000 in
theorem specEnterCost_any (At Ak : Option Addr) (nt nk ct ck : Nat) (l : List Ter) (m : List Knd) (a b c d e W H : Int) (x r y : Value) (lt lr ld : List Int) (k i : Int) (w : World) (hB : BrdAt w At Ak nt nk l m x r y lt lr ld) :
    Calls Tryd.prog 27 #[bv (.slice At nt ct) (.slice Ak nk ck) a b c d e W H x r y, .int .i64 k, .int .i64 i] w fun e' w' => e' = .returned (ib (brdOk ⟨l, m, a, b, c, d, e⟩ W H lt lr ld && inB k nk && onI W H i) (costB l lt k.toNat i.toNat)) ∧ Kp w w' := by
  have KA : Kp w (w.alloc (.cells #[.slice At nt ct, .slice Ak nk ck, .int .i64 a, .int .i64 b, .int .i64 c, .int .i64 d, .int .i64 e, .int .i64 W, .int .i64 H, x, r, y] 44)) := (Kp.refl w).alloc _
  have s0 : (w.alloc (.cells #[.slice At nt ct, .slice Ak nk ck, .int .i64 a, .int .i64 b, .int .i64 c, .int .i64 d, .int .i64 e, .int .i64 W, .int .i64 H, x, r, y] 44)).cell? ⟨w.heap.size, 0, none⟩ = some (.slice At nt ct) ∧ (w.alloc (.cells #[.slice At nt ct, .slice Ak nk ck, .int .i64 a, .int .i64 b, .int .i64 c, .int .i64 d, .int .i64 e, .int .i64 W, .int .i64 H, x, r, y] 44)).cell? ⟨w.heap.size, 1, none⟩ = some (.slice Ak nk ck) ∧ (w.alloc (.cells #[.slice At nt ct, .slice Ak nk ck, .int .i64 a, .int .i64 b, .int .i64 c, .int .i64 d, .int .i64 e, .int .i64 W, .int .i64 H, x, r, y] 44)).cell? ⟨w.heap.size, 2, none⟩ = some (.int .i64 a) ∧ (w.alloc (.cells #[.slice At nt ct, .slice Ak nk ck, .int .i64 a, .int .i64 b, .int .i64 c, .int .i64 d, .int .i64 e, .int .i64 W, .int .i64 H, x, r, y] 44)).cell? ⟨w.heap.size, 3, none⟩ = some (.int .i64 b) ∧ (w.alloc (.cells #[.slice At nt ct, .slice Ak nk ck, .int .i64 a, .int .i64 b, .int .i64 c, .int .i64 d, .int .i64 e, .int .i64 W, .int .i64 H, x, r, y] 44)).cell? ⟨w.heap.size, 4, none⟩ = some (.int .i64 c) ∧ (w.alloc (.cells #[.slice At nt ct, .slice Ak nk ck, .int .i64 a, .int .i64 b, .int .i64 c, .int .i64 d, .int .i64 e, .int .i64 W, .int .i64 H, x, r, y] 44)).cell? ⟨w.heap.size, 5, none⟩ = some (.int .i64 d) ∧ (w.alloc (.cells #[.slice At nt ct, .slice Ak nk ck, .int .i64 a, .int .i64 b, .int .i64 c, .int .i64 d, .int .i64 e, .int .i64 W, .int .i64 H, x, r, y] 44)).cell? ⟨w.heap.size, 6, none⟩ = some (.int .i64 e) ∧ (w.alloc (.cells #[.slice At nt ct, .slice Ak nk ck, .int .i64 a, .int .i64 b, .int .i64 c, .int .i64 d, .int .i64 e, .int .i64 W, .int .i64 H, x, r, y] 44)).cell? ⟨w.heap.size, 7, none⟩ = some (.int .i64 W) ∧ (w.alloc (.cells #[.slice At nt ct, .slice Ak nk ck, .int .i64 a, .int .i64 b, .int .i64 c, .int .i64 d, .int .i64 e, .int .i64 W, .int .i64 H, x, r, y] 44)).cell? ⟨w.heap.size, 8, none⟩ = some (.int .i64 H) ∧ (w.alloc (.cells #[.slice At nt ct, .slice Ak nk ck, .int .i64 a, .int .i64 b, .int .i64 c, .int .i64 d, .int .i64 e, .int .i64 W, .int .i64 H, x, r, y] 44)).cell? ⟨w.heap.size, 9, none⟩ = some (x) ∧ (w.alloc (.cells #[.slice At nt ct, .slice Ak nk ck, .int .i64 a, .int .i64 b, .int .i64 c, .int .i64 d, .int .i64 e, .int .i64 W, .int .i64 H, x, r, y] 44)).cell? ⟨w.heap.size, 10, none⟩ = some (r) ∧ (w.alloc (.cells #[.slice At nt ct, .slice Ak nk ck, .int .i64 a, .int .i64 b, .int .i64 c, .int .i64 d, .int .i64 e, .int .i64 W, .int .i64 H, x, r, y] 44)).cell? ⟨w.heap.size, 11, none⟩ = some (y) ∧ Kp w (w.alloc (.cells #[.slice At nt ct, .slice Ak nk ck, .int .i64 a, .int .i64 b, .int .i64 c, .int .i64 d, .int .i64 e, .int .i64 W, .int .i64 H, x, r, y] 44)) := ⟨by simp [go_sem], by simp [go_sem], by simp [go_sem], by simp [go_sem], by simp [go_sem], by simp [go_sem], by simp [go_sem], by simp [go_sem], by simp [go_sem], by simp [go_sem], by simp [go_sem], by simp [go_sem], KA⟩
  have HB := Lib.hid hB
  have C1 := Lib.hid (bAt_any At Ak nt nk ct ck l m a b c d e W H x r y lt lr ld k i _ (hB.keep KA))
  cases hp : brdOk ⟨l, m, a, b, c, d, e⟩ W H lt lr ld && inB k nk && onI W H i
  · rw [hp] at C1
    clear hB hp
    go_enter Tryd.func27, Tryd.ntmps27
    go_wp2_with fail
    refine C1.out.mono ?_
    rintro e1 w1 ⟨rfl, k1⟩
    go_wp2_with fail
    go_ret2
    exact ⟨rfl, KA.trans k1⟩
  · rw [hp] at C1
    have hp2 : (brdOk ⟨l, m, a, b, c, d, e⟩ W H lt lr ld = true ∧ inB k nk = true) ∧ onI W H i = true := by simpa using hp
    obtain ⟨⟨hok, hin⟩, ho⟩ := hp2
    obtain ⟨k, rfl, hkn⟩ := inB_at hin
    obtain ⟨i, rfl, hil⟩ := onI_at ho (mapOk_len (brdOk_map hok))
    have CE := Lib.hid (fun w h => bCost_any At Ak nt nk ct ck l m a b c d e W H x r y lt lr ld k i w h hok (by rw [hB.R.rk.1]; exact hkn) hil)
    simp only [Int.toNat_natCast]
    generalize costB l lt k i = X at CE ⊢
    clear hB hp hok hin ho
    go_enter Tryd.func27, Tryd.ntmps27
    go_wp2_with fail
    refine C1.out.mono ?_
    rintro e1 w1 ⟨rfl, k1⟩
    have s1 : w1.cell? ⟨w.heap.size, 0, none⟩ = some (.slice At nt ct) ∧ w1.cell? ⟨w.heap.size, 1, none⟩ = some (.slice Ak nk ck) ∧ w1.cell? ⟨w.heap.size, 2, none⟩ = some (.int .i64 a) ∧ w1.cell? ⟨w.heap.size, 3, none⟩ = some (.int .i64 b) ∧ w1.cell? ⟨w.heap.size, 4, none⟩ = some (.int .i64 c) ∧ w1.cell? ⟨w.heap.size, 5, none⟩ = some (.int .i64 d) ∧ w1.cell? ⟨w.heap.size, 6, none⟩ = some (.int .i64 e) ∧ w1.cell? ⟨w.heap.size, 7, none⟩ = some (.int .i64 W) ∧ w1.cell? ⟨w.heap.size, 8, none⟩ = some (.int .i64 H) ∧ w1.cell? ⟨w.heap.size, 9, none⟩ = some (x) ∧ w1.cell? ⟨w.heap.size, 10, none⟩ = some (r) ∧ w1.cell? ⟨w.heap.size, 11, none⟩ = some (y) ∧ Kp w w1 := ⟨k1.cell s0.1, k1.cell s0.2.1, k1.cell s0.2.2.1, k1.cell s0.2.2.2.1, k1.cell s0.2.2.2.2.1, k1.cell s0.2.2.2.2.2.1, k1.cell s0.2.2.2.2.2.2.1, k1.cell s0.2.2.2.2.2.2.2.1, k1.cell s0.2.2.2.2.2.2.2.2.1, k1.cell s0.2.2.2.2.2.2.2.2.2.1, k1.cell s0.2.2.2.2.2.2.2.2.2.2.1, k1.cell s0.2.2.2.2.2.2.2.2.2.2.2.1, s0.2.2.2.2.2.2.2.2.2.2.2.2.trans k1⟩
    clear s0 k1
    go_wp2_with fail
    refine (CE.out _ (HB.out.keep s1.2.2.2.2.2.2.2.2.2.2.2.2)).mono ?_
    rintro e3 w3 ⟨rfl, k3⟩
    go_wp2_with fail
    go_ret2
    exact ⟨rfl, s1.2.2.2.2.2.2.2.2.2.2.2.2.trans k3⟩

set_option maxRecDepth 100000 in
set_option maxHeartbeats 4000000 in
theorem openHexesP_any (At Ak : Option Addr) (nt nk ct ck : Nat) (l : List Ter) (m : List Knd) (a b c d e W H : Int) (x r y : Value) (lt lr ld : List Int) (k : Int) (w : World) (hs : Spans w) (ht : Tab w) (hB : BrdAt w At Ak nt nk l m x r y lt lr ld) :
    Calls Tryd.prog 30 #[bv (.slice At nt ct) (.slice Ak nk ck) a b c d e W H x r y, .int .i64 k] w (ListPostI (brdOk ⟨l, m, a, b, c, d, e⟩ W H lt lr ld && inB k nk) (opnL l lt k.toNat lt.length) w) := by
  have KA : Kp w (w.alloc (.cells #[.slice At nt ct, .slice Ak nk ck, .int .i64 a, .int .i64 b, .int .i64 c, .int .i64 d, .int .i64 e, .int .i64 W, .int .i64 H, x, r, y] 44)) := (Kp.refl w).alloc _
  have s0 : (w.alloc (.cells #[.slice At nt ct, .slice Ak nk ck, .int .i64 a, .int .i64 b, .int .i64 c, .int .i64 d, .int .i64 e, .int .i64 W, .int .i64 H, x, r, y] 44)).cell? ⟨w.heap.size, 0, none⟩ = some (.slice At nt ct) ∧ (w.alloc (.cells #[.slice At nt ct, .slice Ak nk ck, .int .i64 a, .int .i64 b, .int .i64 c, .int .i64 d, .int .i64 e, .int .i64 W, .int .i64 H, x, r, y] 44)).cell? ⟨w.heap.size, 1, none⟩ = some (.slice Ak nk ck) ∧ (w.alloc (.cells #[.slice At nt ct, .slice Ak nk ck, .int .i64 a, .int .i64 b, .int .i64 c, .int .i64 d, .int .i64 e, .int .i64 W, .int .i64 H, x, r, y] 44)).cell? ⟨w.heap.size, 2, none⟩ = some (.int .i64 a) ∧ (w.alloc (.cells #[.slice At nt ct, .slice Ak nk ck, .int .i64 a, .int .i64 b, .int .i64 c, .int .i64 d, .int .i64 e, .int .i64 W, .int .i64 H, x, r, y] 44)).cell? ⟨w.heap.size, 3, none⟩ = some (.int .i64 b) ∧ (w.alloc (.cells #[.slice At nt ct, .slice Ak nk ck, .int .i64 a, .int .i64 b, .int .i64 c, .int .i64 d, .int .i64 e, .int .i64 W, .int .i64 H, x, r, y] 44)).cell? ⟨w.heap.size, 4, none⟩ = some (.int .i64 c) ∧ (w.alloc (.cells #[.slice At nt ct, .slice Ak nk ck, .int .i64 a, .int .i64 b, .int .i64 c, .int .i64 d, .int .i64 e, .int .i64 W, .int .i64 H, x, r, y] 44)).cell? ⟨w.heap.size, 5, none⟩ = some (.int .i64 d) ∧ (w.alloc (.cells #[.slice At nt ct, .slice Ak nk ck, .int .i64 a, .int .i64 b, .int .i64 c, .int .i64 d, .int .i64 e, .int .i64 W, .int .i64 H, x, r, y] 44)).cell? ⟨w.heap.size, 6, none⟩ = some (.int .i64 e) ∧ (w.alloc (.cells #[.slice At nt ct, .slice Ak nk ck, .int .i64 a, .int .i64 b, .int .i64 c, .int .i64 d, .int .i64 e, .int .i64 W, .int .i64 H, x, r, y] 44)).cell? ⟨w.heap.size, 7, none⟩ = some (.int .i64 W) ∧ (w.alloc (.cells #[.slice At nt ct, .slice Ak nk ck, .int .i64 a, .int .i64 b, .int .i64 c, .int .i64 d, .int .i64 e, .int .i64 W, .int .i64 H, x, r, y] 44)).cell? ⟨w.heap.size, 8, none⟩ = some (.int .i64 H) ∧ (w.alloc (.cells #[.slice At nt ct, .slice Ak nk ck, .int .i64 a, .int .i64 b, .int .i64 c, .int .i64 d, .int .i64 e, .int .i64 W, .int .i64 H, x, r, y] 44)).cell? ⟨w.heap.size, 9, none⟩ = some (x) ∧ (w.alloc (.cells #[.slice At nt ct, .slice Ak nk ck, .int .i64 a, .int .i64 b, .int .i64 c, .int .i64 d, .int .i64 e, .int .i64 W, .int .i64 H, x, r, y] 44)).cell? ⟨w.heap.size, 10, none⟩ = some (r) ∧ (w.alloc (.cells #[.slice At nt ct, .slice Ak nk ck, .int .i64 a, .int .i64 b, .int .i64 c, .int .i64 d, .int .i64 e, .int .i64 W, .int .i64 H, x, r, y] 44)).cell? ⟨w.heap.size, 11, none⟩ = some (y) ∧ Kp w (w.alloc (.cells #[.slice At nt ct, .slice Ak nk ck, .int .i64 a, .int .i64 b, .int .i64 c, .int .i64 d, .int .i64 e, .int .i64 W, .int .i64 H, x, r, y] 44)) := ⟨by simp [go_sem], by simp [go_sem], by simp [go_sem], by simp [go_sem], by simp [go_sem], by simp [go_sem], by simp [go_sem], by simp [go_sem], by simp [go_sem], by simp [go_sem], by simp [go_sem], by simp [go_sem], KA⟩
  have HB := Lib.hid hB
  have C1 := Lib.hid (isKindOn_any At Ak nt nk ct ck l m a b c d e W H x r y lt lr ld k _ (hs.keep KA) (ht.keep KA) (hB.keep KA))
  cases hp : brdOk ⟨l, m, a, b, c, d, e⟩ W H lt lr ld && inB k nk
  · rw [hp] at C1
    clear hs ht hB hp
    go_enter Tryd.func30, Tryd.ntmps30
    go_wp2_with fail
    refine C1.out.mono ?_
    rintro e1 w1 ⟨rfl, k1⟩
    go_wp2_with fail
    go_ret2
    exact ListPostI.no (KA.trans k1)
  · rw [hp] at C1
    have hp2 : brdOk ⟨l, m, a, b, c, d, e⟩ W H lt lr ld = true ∧ inB k nk = true := by simpa using hp
    obtain ⟨hok, hin⟩ := hp2
    obtain ⟨k, rfl, hkn⟩ := inB_at hin
    have CE := Lib.hid (fun w h => openHexes_any At Ak nt nk ct ck l m a b c d e W H x r y lt lr ld k w h hok (by rw [hB.R.rk.1]; exact hkn))
    simp only [Int.toNat_natCast]
    generalize opnL l lt k lt.length = L at CE ⊢
    clear hs ht hB hp hok hin
    go_enter Tryd.func30, Tryd.ntmps30
    go_wp2_with fail
    refine C1.out.mono ?_
    rintro e1 w1 ⟨rfl, k1⟩
    have s1 : w1.cell? ⟨w.heap.size, 0, none⟩ = some (.slice At nt ct) ∧ w1.cell? ⟨w.heap.size, 1, none⟩ = some (.slice Ak nk ck) ∧ w1.cell? ⟨w.heap.size, 2, none⟩ = some (.int .i64 a) ∧ w1.cell? ⟨w.heap.size, 3, none⟩ = some (.int .i64 b) ∧ w1.cell? ⟨w.heap.size, 4, none⟩ = some (.int .i64 c) ∧ w1.cell? ⟨w.heap.size, 5, none⟩ = some (.int .i64 d) ∧ w1.cell? ⟨w.heap.size, 6, none⟩ = some (.int .i64 e) ∧ w1.cell? ⟨w.heap.size, 7, none⟩ = some (.int .i64 W) ∧ w1.cell? ⟨w.heap.size, 8, none⟩ = some (.int .i64 H) ∧ w1.cell? ⟨w.heap.size, 9, none⟩ = some (x) ∧ w1.cell? ⟨w.heap.size, 10, none⟩ = some (r) ∧ w1.cell? ⟨w.heap.size, 11, none⟩ = some (y) ∧ Kp w w1 := ⟨k1.cell s0.1, k1.cell s0.2.1, k1.cell s0.2.2.1, k1.cell s0.2.2.2.1, k1.cell s0.2.2.2.2.1, k1.cell s0.2.2.2.2.2.1, k1.cell s0.2.2.2.2.2.2.1, k1.cell s0.2.2.2.2.2.2.2.1, k1.cell s0.2.2.2.2.2.2.2.2.1, k1.cell s0.2.2.2.2.2.2.2.2.2.1, k1.cell s0.2.2.2.2.2.2.2.2.2.2.1, k1.cell s0.2.2.2.2.2.2.2.2.2.2.2.1, s0.2.2.2.2.2.2.2.2.2.2.2.2.trans k1⟩
    have hz : w.heap.size ≤ w1.heap.size := s1.2.2.2.2.2.2.2.2.2.2.2.2.size
    clear s0 k1
    go_wp2_with fail
    refine (CE.out _ (HB.out.keep s1.2.2.2.2.2.2.2.2.2.2.2.2)).mono ?_
    rintro e3 w3 ⟨v, rfl, o3, k3⟩
    go_wp2_with fail
    go_ret2
    exact ⟨_, rfl, o3.base (by omega), s1.2.2.2.2.2.2.2.2.2.2.2.2.trans k3⟩

set_option maxRecDepth 100000 in
set_option maxHeartbeats 4000000 in
theorem specOpenHexes_any (At Ak : Option Addr) (nt nk ct ck : Nat) (l : List Ter) (m : List Knd) (a b c d e W H : Int) (x r y : Value) (lt lr ld : List Int) (k : Int) (w : World) (hB : BrdAt w At Ak nt nk l m x r y lt lr ld) :
    Calls Tryd.prog 29 #[bv (.slice At nt ct) (.slice Ak nk ck) a b c d e W H x r y, .int .i64 k] w (ListPostI (brdOk ⟨l, m, a, b, c, d, e⟩ W H lt lr ld && inB k nk) (opnL l lt k.toNat lt.length) w) := by
  have KA : Kp w (w.alloc (.cells #[.slice At nt ct, .slice Ak nk ck, .int .i64 a, .int .i64 b, .int .i64 c, .int .i64 d, .int .i64 e, .int .i64 W, .int .i64 H, x, r, y] 44)) := (Kp.refl w).alloc _
  have s0 : (w.alloc (.cells #[.slice At nt ct, .slice Ak nk ck, .int .i64 a, .int .i64 b, .int .i64 c, .int .i64 d, .int .i64 e, .int .i64 W, .int .i64 H, x, r, y] 44)).cell? ⟨w.heap.size, 0, none⟩ = some (.slice At nt ct) ∧ (w.alloc (.cells #[.slice At nt ct, .slice Ak nk ck, .int .i64 a, .int .i64 b, .int .i64 c, .int .i64 d, .int .i64 e, .int .i64 W, .int .i64 H, x, r, y] 44)).cell? ⟨w.heap.size, 1, none⟩ = some (.slice Ak nk ck) ∧ (w.alloc (.cells #[.slice At nt ct, .slice Ak nk ck, .int .i64 a, .int .i64 b, .int .i64 c, .int .i64 d, .int .i64 e, .int .i64 W, .int .i64 H, x, r, y] 44)).cell? ⟨w.heap.size, 2, none⟩ = some (.int .i64 a) ∧ (w.alloc (.cells #[.slice At nt ct, .slice Ak nk ck, .int .i64 a, .int .i64 b, .int .i64 c, .int .i64 d, .int .i64 e, .int .i64 W, .int .i64 H, x, r, y] 44)).cell? ⟨w.heap.size, 3, none⟩ = some (.int .i64 b) ∧ (w.alloc (.cells #[.slice At nt ct, .slice Ak nk ck, .int .i64 a, .int .i64 b, .int .i64 c, .int .i64 d, .int .i64 e, .int .i64 W, .int .i64 H, x, r, y] 44)).cell? ⟨w.heap.size, 4, none⟩ = some (.int .i64 c) ∧ (w.alloc (.cells #[.slice At nt ct, .slice Ak nk ck, .int .i64 a, .int .i64 b, .int .i64 c, .int .i64 d, .int .i64 e, .int .i64 W, .int .i64 H, x, r, y] 44)).cell? ⟨w.heap.size, 5, none⟩ = some (.int .i64 d) ∧ (w.alloc (.cells #[.slice At nt ct, .slice Ak nk ck, .int .i64 a, .int .i64 b, .int .i64 c, .int .i64 d, .int .i64 e, .int .i64 W, .int .i64 H, x, r, y] 44)).cell? ⟨w.heap.size, 6, none⟩ = some (.int .i64 e) ∧ (w.alloc (.cells #[.slice At nt ct, .slice Ak nk ck, .int .i64 a, .int .i64 b, .int .i64 c, .int .i64 d, .int .i64 e, .int .i64 W, .int .i64 H, x, r, y] 44)).cell? ⟨w.heap.size, 7, none⟩ = some (.int .i64 W) ∧ (w.alloc (.cells #[.slice At nt ct, .slice Ak nk ck, .int .i64 a, .int .i64 b, .int .i64 c, .int .i64 d, .int .i64 e, .int .i64 W, .int .i64 H, x, r, y] 44)).cell? ⟨w.heap.size, 8, none⟩ = some (.int .i64 H) ∧ (w.alloc (.cells #[.slice At nt ct, .slice Ak nk ck, .int .i64 a, .int .i64 b, .int .i64 c, .int .i64 d, .int .i64 e, .int .i64 W, .int .i64 H, x, r, y] 44)).cell? ⟨w.heap.size, 9, none⟩ = some (x) ∧ (w.alloc (.cells #[.slice At nt ct, .slice Ak nk ck, .int .i64 a, .int .i64 b, .int .i64 c, .int .i64 d, .int .i64 e, .int .i64 W, .int .i64 H, x, r, y] 44)).cell? ⟨w.heap.size, 10, none⟩ = some (r) ∧ (w.alloc (.cells #[.slice At nt ct, .slice Ak nk ck, .int .i64 a, .int .i64 b, .int .i64 c, .int .i64 d, .int .i64 e, .int .i64 W, .int .i64 H, x, r, y] 44)).cell? ⟨w.heap.size, 11, none⟩ = some (y) ∧ Kp w (w.alloc (.cells #[.slice At nt ct, .slice Ak nk ck, .int .i64 a, .int .i64 b, .int .i64 c, .int .i64 d, .int .i64 e, .int .i64 W, .int .i64 H, x, r, y] 44)) := ⟨by simp [go_sem], by simp [go_sem], by simp [go_sem], by simp [go_sem], by simp [go_sem], by simp [go_sem], by simp [go_sem], by simp [go_sem], by simp [go_sem], by simp [go_sem], by simp [go_sem], by simp [go_sem], KA⟩
  have HB := Lib.hid hB
  have C1 : Hid (Calls Tryd.prog 67 #[bv (.slice At nt ct) (.slice Ak nk ck) a b c d e W H x r y, .int .i64 k, .int .i64 0] (w.alloc (.cells #[.slice At nt ct, .slice Ak nk ck, .int .i64 a, .int .i64 b, .int .i64 c, .int .i64 d, .int .i64 e, .int .i64 W, .int .i64 H, x, r, y] 44)) fun e' w' => e' = .returned (.bool (brdOk ⟨l, m, a, b, c, d, e⟩ W H lt lr ld && inB k nk)) ∧ Kp (w.alloc (.cells #[.slice At nt ct, .slice Ak nk ck, .int .i64 a, .int .i64 b, .int .i64 c, .int .i64 d, .int .i64 e, .int .i64 W, .int .i64 H, x, r, y] 44)) w') := Lib.hid (by
    have C1 := bAt_any At Ak nt nk ct ck l m a b c d e W H x r y lt lr ld k 0 _ (hB.keep KA)
    cases ho : brdOk ⟨l, m, a, b, c, d, e⟩ W H lt lr ld
    · rw [ho] at C1
      exact C1
    · rw [ho, onI_zero (mapOk_side (brdOk_map ho)).1 (mapOk_side (brdOk_map ho)).2.2.1, Bool.and_true] at C1
      exact C1)
  cases hp : brdOk ⟨l, m, a, b, c, d, e⟩ W H lt lr ld && inB k nk
  · rw [hp] at C1
    clear  hB hp
    go_enter Tryd.func29, Tryd.ntmps29
    go_wp2_with fail
    refine C1.out.mono ?_
    rintro e1 w1 ⟨rfl, k1⟩
    go_wp2_with fail
    go_ret2
    exact ListPostI.no (KA.trans k1)
  · rw [hp] at C1
    have hp2 : brdOk ⟨l, m, a, b, c, d, e⟩ W H lt lr ld = true ∧ inB k nk = true := by simpa using hp
    obtain ⟨hok, hin⟩ := hp2
    obtain ⟨k, rfl, hkn⟩ := inB_at hin
    have CE := Lib.hid (fun w h => bOpen_any At Ak nt nk ct ck l m a b c d e W H x r y lt lr ld k w h hok (by rw [hB.R.rk.1]; exact hkn))
    simp only [Int.toNat_natCast]
    generalize opnL l lt k lt.length = L at CE ⊢
    clear  hB hp hok hin
    go_enter Tryd.func29, Tryd.ntmps29
    go_wp2_with fail
    refine C1.out.mono ?_
    rintro e1 w1 ⟨rfl, k1⟩
    have s1 : w1.cell? ⟨w.heap.size, 0, none⟩ = some (.slice At nt ct) ∧ w1.cell? ⟨w.heap.size, 1, none⟩ = some (.slice Ak nk ck) ∧ w1.cell? ⟨w.heap.size, 2, none⟩ = some (.int .i64 a) ∧ w1.cell? ⟨w.heap.size, 3, none⟩ = some (.int .i64 b) ∧ w1.cell? ⟨w.heap.size, 4, none⟩ = some (.int .i64 c) ∧ w1.cell? ⟨w.heap.size, 5, none⟩ = some (.int .i64 d) ∧ w1.cell? ⟨w.heap.size, 6, none⟩ = some (.int .i64 e) ∧ w1.cell? ⟨w.heap.size, 7, none⟩ = some (.int .i64 W) ∧ w1.cell? ⟨w.heap.size, 8, none⟩ = some (.int .i64 H) ∧ w1.cell? ⟨w.heap.size, 9, none⟩ = some (x) ∧ w1.cell? ⟨w.heap.size, 10, none⟩ = some (r) ∧ w1.cell? ⟨w.heap.size, 11, none⟩ = some (y) ∧ Kp w w1 := ⟨k1.cell s0.1, k1.cell s0.2.1, k1.cell s0.2.2.1, k1.cell s0.2.2.2.1, k1.cell s0.2.2.2.2.1, k1.cell s0.2.2.2.2.2.1, k1.cell s0.2.2.2.2.2.2.1, k1.cell s0.2.2.2.2.2.2.2.1, k1.cell s0.2.2.2.2.2.2.2.2.1, k1.cell s0.2.2.2.2.2.2.2.2.2.1, k1.cell s0.2.2.2.2.2.2.2.2.2.2.1, k1.cell s0.2.2.2.2.2.2.2.2.2.2.2.1, s0.2.2.2.2.2.2.2.2.2.2.2.2.trans k1⟩
    have hz : w.heap.size ≤ w1.heap.size := s1.2.2.2.2.2.2.2.2.2.2.2.2.size
    clear s0 k1
    go_wp2_with fail
    refine (CE.out _ (HB.out.keep s1.2.2.2.2.2.2.2.2.2.2.2.2)).mono ?_
    rintro e3 w3 ⟨v, rfl, o3, k3⟩
    go_wp2_with fail
    go_ret2
    exact ⟨_, rfl, o3.base (by omega), s1.2.2.2.2.2.2.2.2.2.2.2.2.trans k3⟩

set_option maxRecDepth 100000 in
set_option maxHeartbeats 4000000 in
theorem unusedP_any (At Ak : Option Addr) (nt nk ct ck : Nat) (l : List Ter) (m : List Knd) (a b c d e W H : Int) (x r y : Value) (lt lr ld : List Int) (w : World) (hs : Spans w) (ht : Tab w) (hB : BrdAt w At Ak nt nk l m x r y lt lr ld) :
    Calls Tryd.prog 38 #[bv (.slice At nt ct) (.slice Ak nk ck) a b c d e W H x r y] w (ListPostI (brdOk ⟨l, m, a, b, c, d, e⟩ W H lt lr ld) (unuL lt nt) w) := by
  have KA : Kp w (w.alloc (.cells #[.slice At nt ct, .slice Ak nk ck, .int .i64 a, .int .i64 b, .int .i64 c, .int .i64 d, .int .i64 e, .int .i64 W, .int .i64 H, x, r, y] 44)) := (Kp.refl w).alloc _
  have s0 : (w.alloc (.cells #[.slice At nt ct, .slice Ak nk ck, .int .i64 a, .int .i64 b, .int .i64 c, .int .i64 d, .int .i64 e, .int .i64 W, .int .i64 H, x, r, y] 44)).cell? ⟨w.heap.size, 0, none⟩ = some (.slice At nt ct) ∧ (w.alloc (.cells #[.slice At nt ct, .slice Ak nk ck, .int .i64 a, .int .i64 b, .int .i64 c, .int .i64 d, .int .i64 e, .int .i64 W, .int .i64 H, x, r, y] 44)).cell? ⟨w.heap.size, 1, none⟩ = some (.slice Ak nk ck) ∧ (w.alloc (.cells #[.slice At nt ct, .slice Ak nk ck, .int .i64 a, .int .i64 b, .int .i64 c, .int .i64 d, .int .i64 e, .int .i64 W, .int .i64 H, x, r, y] 44)).cell? ⟨w.heap.size, 2, none⟩ = some (.int .i64 a) ∧ (w.alloc (.cells #[.slice At nt ct, .slice Ak nk ck, .int .i64 a, .int .i64 b, .int .i64 c, .int .i64 d, .int .i64 e, .int .i64 W, .int .i64 H, x, r, y] 44)).cell? ⟨w.heap.size, 3, none⟩ = some (.int .i64 b) ∧ (w.alloc (.cells #[.slice At nt ct, .slice Ak nk ck, .int .i64 a, .int .i64 b, .int .i64 c, .int .i64 d, .int .i64 e, .int .i64 W, .int .i64 H, x, r, y] 44)).cell? ⟨w.heap.size, 4, none⟩ = some (.int .i64 c) ∧ (w.alloc (.cells #[.slice At nt ct, .slice Ak nk ck, .int .i64 a, .int .i64 b, .int .i64 c, .int .i64 d, .int .i64 e, .int .i64 W, .int .i64 H, x, r, y] 44)).cell? ⟨w.heap.size, 5, none⟩ = some (.int .i64 d) ∧ (w.alloc (.cells #[.slice At nt ct, .slice Ak nk ck, .int .i64 a, .int .i64 b, .int .i64 c, .int .i64 d, .int .i64 e, .int .i64 W, .int .i64 H, x, r, y] 44)).cell? ⟨w.heap.size, 6, none⟩ = some (.int .i64 e) ∧ (w.alloc (.cells #[.slice At nt ct, .slice Ak nk ck, .int .i64 a, .int .i64 b, .int .i64 c, .int .i64 d, .int .i64 e, .int .i64 W, .int .i64 H, x, r, y] 44)).cell? ⟨w.heap.size, 7, none⟩ = some (.int .i64 W) ∧ (w.alloc (.cells #[.slice At nt ct, .slice Ak nk ck, .int .i64 a, .int .i64 b, .int .i64 c, .int .i64 d, .int .i64 e, .int .i64 W, .int .i64 H, x, r, y] 44)).cell? ⟨w.heap.size, 8, none⟩ = some (.int .i64 H) ∧ (w.alloc (.cells #[.slice At nt ct, .slice Ak nk ck, .int .i64 a, .int .i64 b, .int .i64 c, .int .i64 d, .int .i64 e, .int .i64 W, .int .i64 H, x, r, y] 44)).cell? ⟨w.heap.size, 9, none⟩ = some (x) ∧ (w.alloc (.cells #[.slice At nt ct, .slice Ak nk ck, .int .i64 a, .int .i64 b, .int .i64 c, .int .i64 d, .int .i64 e, .int .i64 W, .int .i64 H, x, r, y] 44)).cell? ⟨w.heap.size, 10, none⟩ = some (r) ∧ (w.alloc (.cells #[.slice At nt ct, .slice Ak nk ck, .int .i64 a, .int .i64 b, .int .i64 c, .int .i64 d, .int .i64 e, .int .i64 W, .int .i64 H, x, r, y] 44)).cell? ⟨w.heap.size, 11, none⟩ = some (y) ∧ Kp w (w.alloc (.cells #[.slice At nt ct, .slice Ak nk ck, .int .i64 a, .int .i64 b, .int .i64 c, .int .i64 d, .int .i64 e, .int .i64 W, .int .i64 H, x, r, y] 44)) := ⟨by simp [go_sem], by simp [go_sem], by simp [go_sem], by simp [go_sem], by simp [go_sem], by simp [go_sem], by simp [go_sem], by simp [go_sem], by simp [go_sem], by simp [go_sem], by simp [go_sem], by simp [go_sem], KA⟩
  have HB := Lib.hid hB
  have C1 := Lib.hid (isBoard_any At Ak nt nk ct ck l m a b c d e W H x r y lt lr ld _ (hs.keep KA) (ht.keep KA) (hB.keep KA))
  cases hp : brdOk ⟨l, m, a, b, c, d, e⟩ W H lt lr ld
  · rw [hp] at C1
    clear hs ht hB hp
    go_enter Tryd.func38, Tryd.ntmps38
    go_wp2_with fail
    refine C1.out.mono ?_
    rintro e1 w1 ⟨rfl, k1⟩
    go_wp2_with fail
    go_ret2
    exact ListPostI.no (KA.trans k1)
  · rw [hp] at C1
    have hn6 : nt ≤ 6 := by have := (rulOk_nt (brdOk_rul hp)).1.2; have := hB.R.rt.1; omega
    have HF : Hid (∀ i : Nat, Hid (∀ w, BrdAt w At Ak nt nk l m x r y lt lr ld → Calls Tryd.prog 77 #[x, .int .i64 (i : Int)] w fun e w' => e = .returned (.bool (hasB lt (i : Int))) ∧ Kp w w')) := Lib.hid fun i => Lib.hid fun w h => (contains_any x lt (i : Int) w h.L.rt h.L.bt).mono fun e w' ⟨h1, h2⟩ => ⟨h1, h2 ▸ Kp.refl _⟩
    have e0 : unuL lt nt = filN (unuB lt) nt := rfl
    rw [e0]
    have HP : Hid (∀ i : Nat, hasB lt (i : Int) = !unuB lt i) := Lib.hid fun i => by simp [unuB]
    generalize hF : unuB lt = F at HP ⊢
    obtain ⟨j0, hj0, hz0, hs0, hb0⟩ := info_parts infoInt
    clear hs ht hB hp KA hF e0
    go_enter Tryd.func38, Tryd.ntmps38
    go_wp2_with fail
    refine C1.out.mono ?_
    rintro e1 w0 ⟨rfl, k0⟩
    replace s0 : w0.cell? ⟨w.heap.size, 0, none⟩ = some (.slice At nt ct) ∧ w0.cell? ⟨w.heap.size, 1, none⟩ = some (.slice Ak nk ck) ∧ w0.cell? ⟨w.heap.size, 2, none⟩ = some (.int .i64 a) ∧ w0.cell? ⟨w.heap.size, 3, none⟩ = some (.int .i64 b) ∧ w0.cell? ⟨w.heap.size, 4, none⟩ = some (.int .i64 c) ∧ w0.cell? ⟨w.heap.size, 5, none⟩ = some (.int .i64 d) ∧ w0.cell? ⟨w.heap.size, 6, none⟩ = some (.int .i64 e) ∧ w0.cell? ⟨w.heap.size, 7, none⟩ = some (.int .i64 W) ∧ w0.cell? ⟨w.heap.size, 8, none⟩ = some (.int .i64 H) ∧ w0.cell? ⟨w.heap.size, 9, none⟩ = some (x) ∧ w0.cell? ⟨w.heap.size, 10, none⟩ = some (r) ∧ w0.cell? ⟨w.heap.size, 11, none⟩ = some (y) ∧ Kp w w0 := ⟨k0.cell s0.1, k0.cell s0.2.1, k0.cell s0.2.2.1, k0.cell s0.2.2.2.1, k0.cell s0.2.2.2.2.1, k0.cell s0.2.2.2.2.2.1, k0.cell s0.2.2.2.2.2.2.1, k0.cell s0.2.2.2.2.2.2.2.1, k0.cell s0.2.2.2.2.2.2.2.2.1, k0.cell s0.2.2.2.2.2.2.2.2.2.1, k0.cell s0.2.2.2.2.2.2.2.2.2.2.1, k0.cell s0.2.2.2.2.2.2.2.2.2.2.2.1, s0.2.2.2.2.2.2.2.2.2.2.2.2.trans k0⟩
    clear k0 C1
    go_wp2_with fail
    go_loopw [4, 5, 13] (fun v _ sq wx => ∃ q : Nat, q ≤ nt ∧ sq = .int .i64 q ∧ OwnI wx (w.heap.size + 1) v (filN F q) ∧ wx.cell? ⟨w.heap.size, 0, none⟩ = some (.slice At nt ct) ∧ wx.cell? ⟨w.heap.size, 1, none⟩ = some (.slice Ak nk ck) ∧ wx.cell? ⟨w.heap.size, 2, none⟩ = some (.int .i64 a) ∧ wx.cell? ⟨w.heap.size, 3, none⟩ = some (.int .i64 b) ∧ wx.cell? ⟨w.heap.size, 4, none⟩ = some (.int .i64 c) ∧ wx.cell? ⟨w.heap.size, 5, none⟩ = some (.int .i64 d) ∧ wx.cell? ⟨w.heap.size, 6, none⟩ = some (.int .i64 e) ∧ wx.cell? ⟨w.heap.size, 7, none⟩ = some (.int .i64 W) ∧ wx.cell? ⟨w.heap.size, 8, none⟩ = some (.int .i64 H) ∧ wx.cell? ⟨w.heap.size, 9, none⟩ = some (x) ∧ wx.cell? ⟨w.heap.size, 10, none⟩ = some (r) ∧ wx.cell? ⟨w.heap.size, 11, none⟩ = some (y) ∧ Kp w wx) (fun _ _ sq _ => nt - (intOf sq).toNat)
    case atStart => exact ⟨0, by omega, rfl, OwnI.nil _ _, s0⟩
    case round =>
      clear s0
      obtain ⟨q, hqn, rfl, hoR, sr⟩ := hrel
      by_cases hlt : q < nt
      · have hlt' : (q : Int) < nt := by omega
        have HO := Lib.hid hoR
        have kr : Kp w wr := sr.2.2.2.2.2.2.2.2.2.2.2.2
        clear hoR
        cases hf : F q
        · have HS : Hid (filN F (q + 1) = filN F q) := Lib.hid (filN_no hf)
          have hh := HP.out q
          rw [hf] at hh
          go_wp2_with fail
          refine ((HF.out q).out _ (HB.out.keep kr)).mono ?_
          rintro e1 w1 ⟨rfl, k1⟩
          rw [hh]
          have HO1 := Lib.hid (HO.out.keep k1)
          have s1 : w1.cell? ⟨w.heap.size, 0, none⟩ = some (.slice At nt ct) ∧ w1.cell? ⟨w.heap.size, 1, none⟩ = some (.slice Ak nk ck) ∧ w1.cell? ⟨w.heap.size, 2, none⟩ = some (.int .i64 a) ∧ w1.cell? ⟨w.heap.size, 3, none⟩ = some (.int .i64 b) ∧ w1.cell? ⟨w.heap.size, 4, none⟩ = some (.int .i64 c) ∧ w1.cell? ⟨w.heap.size, 5, none⟩ = some (.int .i64 d) ∧ w1.cell? ⟨w.heap.size, 6, none⟩ = some (.int .i64 e) ∧ w1.cell? ⟨w.heap.size, 7, none⟩ = some (.int .i64 W) ∧ w1.cell? ⟨w.heap.size, 8, none⟩ = some (.int .i64 H) ∧ w1.cell? ⟨w.heap.size, 9, none⟩ = some (x) ∧ w1.cell? ⟨w.heap.size, 10, none⟩ = some (r) ∧ w1.cell? ⟨w.heap.size, 11, none⟩ = some (y) ∧ Kp w w1 := ⟨k1.cell sr.1, k1.cell sr.2.1, k1.cell sr.2.2.1, k1.cell sr.2.2.2.1, k1.cell sr.2.2.2.2.1, k1.cell sr.2.2.2.2.2.1, k1.cell sr.2.2.2.2.2.2.1, k1.cell sr.2.2.2.2.2.2.2.1, k1.cell sr.2.2.2.2.2.2.2.2.1, k1.cell sr.2.2.2.2.2.2.2.2.2.1, k1.cell sr.2.2.2.2.2.2.2.2.2.2.1, k1.cell sr.2.2.2.2.2.2.2.2.2.2.2.1, kr.trans k1⟩
          clear sr k1 HO kr
          go_wp2_with fail
          go_roundw
          case rel => exact ⟨q + 1, by omega, by go_num, by rw [HS.out]; exact HO1.out, s1⟩
          case measure => simp [intOf]; omega
        · have HS : Hid (filN F (q + 1) = filN F q ++ [(q : Int)]) := Lib.hid (filN_yes hf)
          have hln := Lib.hid (filN_len F q)
          have hh := HP.out q
          rw [hf] at hh
          go_wp2_with fail
          refine ((HF.out q).out _ (HB.out.keep kr)).mono ?_
          rintro e1 w1 ⟨rfl, k1⟩
          rw [hh]
          have HO1 := Lib.hid (HO.out.keep k1)
          have s1 : w1.cell? ⟨w.heap.size, 0, none⟩ = some (.slice At nt ct) ∧ w1.cell? ⟨w.heap.size, 1, none⟩ = some (.slice Ak nk ck) ∧ w1.cell? ⟨w.heap.size, 2, none⟩ = some (.int .i64 a) ∧ w1.cell? ⟨w.heap.size, 3, none⟩ = some (.int .i64 b) ∧ w1.cell? ⟨w.heap.size, 4, none⟩ = some (.int .i64 c) ∧ w1.cell? ⟨w.heap.size, 5, none⟩ = some (.int .i64 d) ∧ w1.cell? ⟨w.heap.size, 6, none⟩ = some (.int .i64 e) ∧ w1.cell? ⟨w.heap.size, 7, none⟩ = some (.int .i64 W) ∧ w1.cell? ⟨w.heap.size, 8, none⟩ = some (.int .i64 H) ∧ w1.cell? ⟨w.heap.size, 9, none⟩ = some (x) ∧ w1.cell? ⟨w.heap.size, 10, none⟩ = some (r) ∧ w1.cell? ⟨w.heap.size, 11, none⟩ = some (y) ∧ Kp w w1 := ⟨k1.cell sr.1, k1.cell sr.2.1, k1.cell sr.2.2.1, k1.cell sr.2.2.2.1, k1.cell sr.2.2.2.2.1, k1.cell sr.2.2.2.2.2.1, k1.cell sr.2.2.2.2.2.2.1, k1.cell sr.2.2.2.2.2.2.2.1, k1.cell sr.2.2.2.2.2.2.2.2.1, k1.cell sr.2.2.2.2.2.2.2.2.2.1, k1.cell sr.2.2.2.2.2.2.2.2.2.2.1, k1.cell sr.2.2.2.2.2.2.2.2.2.2.2.1, kr.trans k1⟩
          have n0 := Lib.hid (HO1.out.not (g := w.heap.size) (by omega))
          have n1 := Lib.hid (HO1.out.not (g := w.heap.size) (by omega))
          have n2 := Lib.hid (HO1.out.not (g := w.heap.size) (by omega))
          have n3 := Lib.hid (HO1.out.not (g := w.heap.size) (by omega))
          have n4 := Lib.hid (HO1.out.not (g := w.heap.size) (by omega))
          have n5 := Lib.hid (HO1.out.not (g := w.heap.size) (by omega))
          have n6 := Lib.hid (HO1.out.not (g := w.heap.size) (by omega))
          have n7 := Lib.hid (HO1.out.not (g := w.heap.size) (by omega))
          have n8 := Lib.hid (HO1.out.not (g := w.heap.size) (by omega))
          have n9 := Lib.hid (HO1.out.not (g := w.heap.size) (by omega))
          have n10 := Lib.hid (HO1.out.not (g := w.heap.size) (by omega))
          have n11 := Lib.hid (HO1.out.not (g := w.heap.size) (by omega))
          have hbw : w.heap.size ≤ w1.heap.size := s1.2.2.2.2.2.2.2.2.2.2.2.2.size
          clear sr k1 HO kr
          go_wp2_with (at_builtin; refine wpList_append_own_at _ rfl (.tmp 22) (.tmp 24) 35 rfl (w.heap.size + 1) 3 j0 (.int .i64 0) 1 8 Tryd.underlying35 hj0 hz0 hs0 hb0 rfl (by decide) _ (filN F q).length (cellsI (filN F q)) rfl (World.ownsRow.alloc HO1.out _) ⟨w1.heap.size, 0, none⟩ 1 1 [.int .i64 q] rfl rfl (one_cell _ _ _) (by simp [Value.oneCell']) (by have := hln.out; simp only [maxLen]; omega) (by have := hln.out; omega) (by simp; omega) ?_; intro v' w3 hown2 hgrow2 hnil2 hat2; clear hnil2 hat2; have s5 : w3.cell? ⟨w.heap.size, 0, none⟩ = some (.slice At nt ct) ∧ w3.cell? ⟨w.heap.size, 1, none⟩ = some (.slice Ak nk ck) ∧ w3.cell? ⟨w.heap.size, 2, none⟩ = some (.int .i64 a) ∧ w3.cell? ⟨w.heap.size, 3, none⟩ = some (.int .i64 b) ∧ w3.cell? ⟨w.heap.size, 4, none⟩ = some (.int .i64 c) ∧ w3.cell? ⟨w.heap.size, 5, none⟩ = some (.int .i64 d) ∧ w3.cell? ⟨w.heap.size, 6, none⟩ = some (.int .i64 e) ∧ w3.cell? ⟨w.heap.size, 7, none⟩ = some (.int .i64 W) ∧ w3.cell? ⟨w.heap.size, 8, none⟩ = some (.int .i64 H) ∧ w3.cell? ⟨w.heap.size, 9, none⟩ = some (x) ∧ w3.cell? ⟨w.heap.size, 10, none⟩ = some (r) ∧ w3.cell? ⟨w.heap.size, 11, none⟩ = some (y) ∧ Kp w w3 := ⟨hgrow2.cell (((Kp.refl w1).alloc (.cells #[.int .i64 (q : Int)] 3)).cell s1.1) (fun e => n0.out e.symm), hgrow2.cell (((Kp.refl w1).alloc (.cells #[.int .i64 (q : Int)] 3)).cell s1.2.1) (fun e => n1.out e.symm), hgrow2.cell (((Kp.refl w1).alloc (.cells #[.int .i64 (q : Int)] 3)).cell s1.2.2.1) (fun e => n2.out e.symm), hgrow2.cell (((Kp.refl w1).alloc (.cells #[.int .i64 (q : Int)] 3)).cell s1.2.2.2.1) (fun e => n3.out e.symm), hgrow2.cell (((Kp.refl w1).alloc (.cells #[.int .i64 (q : Int)] 3)).cell s1.2.2.2.2.1) (fun e => n4.out e.symm), hgrow2.cell (((Kp.refl w1).alloc (.cells #[.int .i64 (q : Int)] 3)).cell s1.2.2.2.2.2.1) (fun e => n5.out e.symm), hgrow2.cell (((Kp.refl w1).alloc (.cells #[.int .i64 (q : Int)] 3)).cell s1.2.2.2.2.2.2.1) (fun e => n6.out e.symm), hgrow2.cell (((Kp.refl w1).alloc (.cells #[.int .i64 (q : Int)] 3)).cell s1.2.2.2.2.2.2.2.1) (fun e => n7.out e.symm), hgrow2.cell (((Kp.refl w1).alloc (.cells #[.int .i64 (q : Int)] 3)).cell s1.2.2.2.2.2.2.2.2.1) (fun e => n8.out e.symm), hgrow2.cell (((Kp.refl w1).alloc (.cells #[.int .i64 (q : Int)] 3)).cell s1.2.2.2.2.2.2.2.2.2.1) (fun e => n9.out e.symm), hgrow2.cell (((Kp.refl w1).alloc (.cells #[.int .i64 (q : Int)] 3)).cell s1.2.2.2.2.2.2.2.2.2.2.1) (fun e => n10.out e.symm), hgrow2.cell (((Kp.refl w1).alloc (.cells #[.int .i64 (q : Int)] 3)).cell s1.2.2.2.2.2.2.2.2.2.2.2.1) (fun e => n11.out e.symm), (s1.2.2.2.2.2.2.2.2.2.2.2.2.alloc _).grown hgrow2 (fun k e => by have := (World.ownsRow.lt HO1.out k e).1; omega)⟩; have O3 := Lib.hid (OwnI.snoc (x := q) hown2); clear hown2 hgrow2)
          go_roundw
          case rel => exact ⟨q + 1, by omega, by go_num, by rw [HS.out]; exact O3.out, s5⟩
          case measure => simp [intOf]; omega
      · obtain rfl : q = nt := by omega
        go_wp2_with fail
        go_ret2
        exact ⟨_, rfl, hoR.base (by omega), sr.2.2.2.2.2.2.2.2.2.2.2.2⟩

set_option maxRecDepth 100000 in
set_option maxHeartbeats 4000000 in
theorem specUnused_any (At Ak : Option Addr) (nt nk ct ck : Nat) (l : List Ter) (m : List Knd) (a b c d e W H : Int) (x r y : Value) (lt lr ld : List Int) (w : World) (hB : BrdAt w At Ak nt nk l m x r y lt lr ld) :
    Calls Tryd.prog 37 #[bv (.slice At nt ct) (.slice Ak nk ck) a b c d e W H x r y] w (ListPostI (brdOk ⟨l, m, a, b, c, d, e⟩ W H lt lr ld) (unuL lt nt) w) := by
  have KA : Kp w (w.alloc (.cells #[.slice At nt ct, .slice Ak nk ck, .int .i64 a, .int .i64 b, .int .i64 c, .int .i64 d, .int .i64 e, .int .i64 W, .int .i64 H, x, r, y] 44)) := (Kp.refl w).alloc _
  have s0 : (w.alloc (.cells #[.slice At nt ct, .slice Ak nk ck, .int .i64 a, .int .i64 b, .int .i64 c, .int .i64 d, .int .i64 e, .int .i64 W, .int .i64 H, x, r, y] 44)).cell? ⟨w.heap.size, 0, none⟩ = some (.slice At nt ct) ∧ (w.alloc (.cells #[.slice At nt ct, .slice Ak nk ck, .int .i64 a, .int .i64 b, .int .i64 c, .int .i64 d, .int .i64 e, .int .i64 W, .int .i64 H, x, r, y] 44)).cell? ⟨w.heap.size, 1, none⟩ = some (.slice Ak nk ck) ∧ (w.alloc (.cells #[.slice At nt ct, .slice Ak nk ck, .int .i64 a, .int .i64 b, .int .i64 c, .int .i64 d, .int .i64 e, .int .i64 W, .int .i64 H, x, r, y] 44)).cell? ⟨w.heap.size, 2, none⟩ = some (.int .i64 a) ∧ (w.alloc (.cells #[.slice At nt ct, .slice Ak nk ck, .int .i64 a, .int .i64 b, .int .i64 c, .int .i64 d, .int .i64 e, .int .i64 W, .int .i64 H, x, r, y] 44)).cell? ⟨w.heap.size, 3, none⟩ = some (.int .i64 b) ∧ (w.alloc (.cells #[.slice At nt ct, .slice Ak nk ck, .int .i64 a, .int .i64 b, .int .i64 c, .int .i64 d, .int .i64 e, .int .i64 W, .int .i64 H, x, r, y] 44)).cell? ⟨w.heap.size, 4, none⟩ = some (.int .i64 c) ∧ (w.alloc (.cells #[.slice At nt ct, .slice Ak nk ck, .int .i64 a, .int .i64 b, .int .i64 c, .int .i64 d, .int .i64 e, .int .i64 W, .int .i64 H, x, r, y] 44)).cell? ⟨w.heap.size, 5, none⟩ = some (.int .i64 d) ∧ (w.alloc (.cells #[.slice At nt ct, .slice Ak nk ck, .int .i64 a, .int .i64 b, .int .i64 c, .int .i64 d, .int .i64 e, .int .i64 W, .int .i64 H, x, r, y] 44)).cell? ⟨w.heap.size, 6, none⟩ = some (.int .i64 e) ∧ (w.alloc (.cells #[.slice At nt ct, .slice Ak nk ck, .int .i64 a, .int .i64 b, .int .i64 c, .int .i64 d, .int .i64 e, .int .i64 W, .int .i64 H, x, r, y] 44)).cell? ⟨w.heap.size, 7, none⟩ = some (.int .i64 W) ∧ (w.alloc (.cells #[.slice At nt ct, .slice Ak nk ck, .int .i64 a, .int .i64 b, .int .i64 c, .int .i64 d, .int .i64 e, .int .i64 W, .int .i64 H, x, r, y] 44)).cell? ⟨w.heap.size, 8, none⟩ = some (.int .i64 H) ∧ (w.alloc (.cells #[.slice At nt ct, .slice Ak nk ck, .int .i64 a, .int .i64 b, .int .i64 c, .int .i64 d, .int .i64 e, .int .i64 W, .int .i64 H, x, r, y] 44)).cell? ⟨w.heap.size, 9, none⟩ = some (x) ∧ (w.alloc (.cells #[.slice At nt ct, .slice Ak nk ck, .int .i64 a, .int .i64 b, .int .i64 c, .int .i64 d, .int .i64 e, .int .i64 W, .int .i64 H, x, r, y] 44)).cell? ⟨w.heap.size, 10, none⟩ = some (r) ∧ (w.alloc (.cells #[.slice At nt ct, .slice Ak nk ck, .int .i64 a, .int .i64 b, .int .i64 c, .int .i64 d, .int .i64 e, .int .i64 W, .int .i64 H, x, r, y] 44)).cell? ⟨w.heap.size, 11, none⟩ = some (y) ∧ Kp w (w.alloc (.cells #[.slice At nt ct, .slice Ak nk ck, .int .i64 a, .int .i64 b, .int .i64 c, .int .i64 d, .int .i64 e, .int .i64 W, .int .i64 H, x, r, y] 44)) := ⟨by simp [go_sem], by simp [go_sem], by simp [go_sem], by simp [go_sem], by simp [go_sem], by simp [go_sem], by simp [go_sem], by simp [go_sem], by simp [go_sem], by simp [go_sem], by simp [go_sem], by simp [go_sem], KA⟩
  have HB := Lib.hid hB
  have C1 := Lib.hid (bGood_any At Ak nt nk ct ck l m a b c d e W H x r y lt lr ld _ (hB.keep KA))
  cases hp : brdOk ⟨l, m, a, b, c, d, e⟩ W H lt lr ld
  · rw [hp] at C1
    clear  hB hp
    go_enter Tryd.func37, Tryd.ntmps37
    go_wp2_with fail
    refine C1.out.mono ?_
    rintro e1 w1 ⟨rfl, k1⟩
    go_wp2_with fail
    go_ret2
    exact ListPostI.no (KA.trans k1)
  · rw [hp] at C1
    have hn6 : nt ≤ 6 := by have := (rulOk_nt (brdOk_rul hp)).1.2; have := hB.R.rt.1; omega
    have HF : Hid (∀ i : Nat, Hid (∀ w, BrdAt w At Ak nt nk l m x r y lt lr ld → Calls Tryd.prog 76 #[x, .int .i64 (i : Int)] w fun e w' => e = .returned (.bool (hasB lt (i : Int))) ∧ Kp w w')) := Lib.hid fun i => Lib.hid fun w h => (l1Has_any x lt (i : Int) w h.L.rt h.L.bt).mono fun e w' ⟨h1, h2⟩ => ⟨h1, h2 ▸ Kp.refl _⟩
    have e0 : unuL lt nt = filN (unuB lt) nt := rfl
    rw [e0]
    have HP : Hid (∀ i : Nat, hasB lt (i : Int) = !unuB lt i) := Lib.hid fun i => by simp [unuB]
    generalize hF : unuB lt = F at HP ⊢
    obtain ⟨j0, hj0, hz0, hs0, hb0⟩ := info_parts infoInt
    clear  hB hp KA hF e0
    go_enter Tryd.func37, Tryd.ntmps37
    go_wp2_with fail
    refine C1.out.mono ?_
    rintro e1 w0 ⟨rfl, k0⟩
    replace s0 : w0.cell? ⟨w.heap.size, 0, none⟩ = some (.slice At nt ct) ∧ w0.cell? ⟨w.heap.size, 1, none⟩ = some (.slice Ak nk ck) ∧ w0.cell? ⟨w.heap.size, 2, none⟩ = some (.int .i64 a) ∧ w0.cell? ⟨w.heap.size, 3, none⟩ = some (.int .i64 b) ∧ w0.cell? ⟨w.heap.size, 4, none⟩ = some (.int .i64 c) ∧ w0.cell? ⟨w.heap.size, 5, none⟩ = some (.int .i64 d) ∧ w0.cell? ⟨w.heap.size, 6, none⟩ = some (.int .i64 e) ∧ w0.cell? ⟨w.heap.size, 7, none⟩ = some (.int .i64 W) ∧ w0.cell? ⟨w.heap.size, 8, none⟩ = some (.int .i64 H) ∧ w0.cell? ⟨w.heap.size, 9, none⟩ = some (x) ∧ w0.cell? ⟨w.heap.size, 10, none⟩ = some (r) ∧ w0.cell? ⟨w.heap.size, 11, none⟩ = some (y) ∧ Kp w w0 := ⟨k0.cell s0.1, k0.cell s0.2.1, k0.cell s0.2.2.1, k0.cell s0.2.2.2.1, k0.cell s0.2.2.2.2.1, k0.cell s0.2.2.2.2.2.1, k0.cell s0.2.2.2.2.2.2.1, k0.cell s0.2.2.2.2.2.2.2.1, k0.cell s0.2.2.2.2.2.2.2.2.1, k0.cell s0.2.2.2.2.2.2.2.2.2.1, k0.cell s0.2.2.2.2.2.2.2.2.2.2.1, k0.cell s0.2.2.2.2.2.2.2.2.2.2.2.1, s0.2.2.2.2.2.2.2.2.2.2.2.2.trans k0⟩
    clear k0 C1
    go_wp2_with fail
    go_loopw [4, 5, 13] (fun v _ sq wx => ∃ q : Nat, q ≤ nt ∧ sq = .int .i64 q ∧ OwnI wx (w.heap.size + 1) v (filN F q) ∧ wx.cell? ⟨w.heap.size, 0, none⟩ = some (.slice At nt ct) ∧ wx.cell? ⟨w.heap.size, 1, none⟩ = some (.slice Ak nk ck) ∧ wx.cell? ⟨w.heap.size, 2, none⟩ = some (.int .i64 a) ∧ wx.cell? ⟨w.heap.size, 3, none⟩ = some (.int .i64 b) ∧ wx.cell? ⟨w.heap.size, 4, none⟩ = some (.int .i64 c) ∧ wx.cell? ⟨w.heap.size, 5, none⟩ = some (.int .i64 d) ∧ wx.cell? ⟨w.heap.size, 6, none⟩ = some (.int .i64 e) ∧ wx.cell? ⟨w.heap.size, 7, none⟩ = some (.int .i64 W) ∧ wx.cell? ⟨w.heap.size, 8, none⟩ = some (.int .i64 H) ∧ wx.cell? ⟨w.heap.size, 9, none⟩ = some (x) ∧ wx.cell? ⟨w.heap.size, 10, none⟩ = some (r) ∧ wx.cell? ⟨w.heap.size, 11, none⟩ = some (y) ∧ Kp w wx) (fun _ _ sq _ => nt - (intOf sq).toNat)
    case atStart => exact ⟨0, by omega, rfl, OwnI.nil _ _, s0⟩
    case round =>
      clear s0
      obtain ⟨q, hqn, rfl, hoR, sr⟩ := hrel
      by_cases hlt : q < nt
      · have hlt' : (q : Int) < nt := by omega
        have HO := Lib.hid hoR
        have kr : Kp w wr := sr.2.2.2.2.2.2.2.2.2.2.2.2
        clear hoR
        cases hf : F q
        · have HS : Hid (filN F (q + 1) = filN F q) := Lib.hid (filN_no hf)
          have hh := HP.out q
          rw [hf] at hh
          go_wp2_with fail
          refine ((HF.out q).out _ (HB.out.keep kr)).mono ?_
          rintro e1 w1 ⟨rfl, k1⟩
          rw [hh]
          have HO1 := Lib.hid (HO.out.keep k1)
          have s1 : w1.cell? ⟨w.heap.size, 0, none⟩ = some (.slice At nt ct) ∧ w1.cell? ⟨w.heap.size, 1, none⟩ = some (.slice Ak nk ck) ∧ w1.cell? ⟨w.heap.size, 2, none⟩ = some (.int .i64 a) ∧ w1.cell? ⟨w.heap.size, 3, none⟩ = some (.int .i64 b) ∧ w1.cell? ⟨w.heap.size, 4, none⟩ = some (.int .i64 c) ∧ w1.cell? ⟨w.heap.size, 5, none⟩ = some (.int .i64 d) ∧ w1.cell? ⟨w.heap.size, 6, none⟩ = some (.int .i64 e) ∧ w1.cell? ⟨w.heap.size, 7, none⟩ = some (.int .i64 W) ∧ w1.cell? ⟨w.heap.size, 8, none⟩ = some (.int .i64 H) ∧ w1.cell? ⟨w.heap.size, 9, none⟩ = some (x) ∧ w1.cell? ⟨w.heap.size, 10, none⟩ = some (r) ∧ w1.cell? ⟨w.heap.size, 11, none⟩ = some (y) ∧ Kp w w1 := ⟨k1.cell sr.1, k1.cell sr.2.1, k1.cell sr.2.2.1, k1.cell sr.2.2.2.1, k1.cell sr.2.2.2.2.1, k1.cell sr.2.2.2.2.2.1, k1.cell sr.2.2.2.2.2.2.1, k1.cell sr.2.2.2.2.2.2.2.1, k1.cell sr.2.2.2.2.2.2.2.2.1, k1.cell sr.2.2.2.2.2.2.2.2.2.1, k1.cell sr.2.2.2.2.2.2.2.2.2.2.1, k1.cell sr.2.2.2.2.2.2.2.2.2.2.2.1, kr.trans k1⟩
          clear sr k1 HO kr
          go_wp2_with fail
          go_roundw
          case rel => exact ⟨q + 1, by omega, by go_num, by rw [HS.out]; exact HO1.out, s1⟩
          case measure => simp [intOf]; omega
        · have HS : Hid (filN F (q + 1) = filN F q ++ [(q : Int)]) := Lib.hid (filN_yes hf)
          have hln := Lib.hid (filN_len F q)
          have hh := HP.out q
          rw [hf] at hh
          go_wp2_with fail
          refine ((HF.out q).out _ (HB.out.keep kr)).mono ?_
          rintro e1 w1 ⟨rfl, k1⟩
          rw [hh]
          have HO1 := Lib.hid (HO.out.keep k1)
          have s1 : w1.cell? ⟨w.heap.size, 0, none⟩ = some (.slice At nt ct) ∧ w1.cell? ⟨w.heap.size, 1, none⟩ = some (.slice Ak nk ck) ∧ w1.cell? ⟨w.heap.size, 2, none⟩ = some (.int .i64 a) ∧ w1.cell? ⟨w.heap.size, 3, none⟩ = some (.int .i64 b) ∧ w1.cell? ⟨w.heap.size, 4, none⟩ = some (.int .i64 c) ∧ w1.cell? ⟨w.heap.size, 5, none⟩ = some (.int .i64 d) ∧ w1.cell? ⟨w.heap.size, 6, none⟩ = some (.int .i64 e) ∧ w1.cell? ⟨w.heap.size, 7, none⟩ = some (.int .i64 W) ∧ w1.cell? ⟨w.heap.size, 8, none⟩ = some (.int .i64 H) ∧ w1.cell? ⟨w.heap.size, 9, none⟩ = some (x) ∧ w1.cell? ⟨w.heap.size, 10, none⟩ = some (r) ∧ w1.cell? ⟨w.heap.size, 11, none⟩ = some (y) ∧ Kp w w1 := ⟨k1.cell sr.1, k1.cell sr.2.1, k1.cell sr.2.2.1, k1.cell sr.2.2.2.1, k1.cell sr.2.2.2.2.1, k1.cell sr.2.2.2.2.2.1, k1.cell sr.2.2.2.2.2.2.1, k1.cell sr.2.2.2.2.2.2.2.1, k1.cell sr.2.2.2.2.2.2.2.2.1, k1.cell sr.2.2.2.2.2.2.2.2.2.1, k1.cell sr.2.2.2.2.2.2.2.2.2.2.1, k1.cell sr.2.2.2.2.2.2.2.2.2.2.2.1, kr.trans k1⟩
          have n0 := Lib.hid (HO1.out.not (g := w.heap.size) (by omega))
          have n1 := Lib.hid (HO1.out.not (g := w.heap.size) (by omega))
          have n2 := Lib.hid (HO1.out.not (g := w.heap.size) (by omega))
          have n3 := Lib.hid (HO1.out.not (g := w.heap.size) (by omega))
          have n4 := Lib.hid (HO1.out.not (g := w.heap.size) (by omega))
          have n5 := Lib.hid (HO1.out.not (g := w.heap.size) (by omega))
          have n6 := Lib.hid (HO1.out.not (g := w.heap.size) (by omega))
          have n7 := Lib.hid (HO1.out.not (g := w.heap.size) (by omega))
          have n8 := Lib.hid (HO1.out.not (g := w.heap.size) (by omega))
          have n9 := Lib.hid (HO1.out.not (g := w.heap.size) (by omega))
          have n10 := Lib.hid (HO1.out.not (g := w.heap.size) (by omega))
          have n11 := Lib.hid (HO1.out.not (g := w.heap.size) (by omega))
          have hbw : w.heap.size ≤ w1.heap.size := s1.2.2.2.2.2.2.2.2.2.2.2.2.size
          clear sr k1 HO kr
          go_wp2_with (at_builtin; refine wpList_append_own_at _ rfl (.tmp 22) (.tmp 24) 35 rfl (w.heap.size + 1) 3 j0 (.int .i64 0) 1 8 Tryd.underlying35 hj0 hz0 hs0 hb0 rfl (by decide) _ (filN F q).length (cellsI (filN F q)) rfl (World.ownsRow.alloc HO1.out _) ⟨w1.heap.size, 0, none⟩ 1 1 [.int .i64 q] rfl rfl (one_cell _ _ _) (by simp [Value.oneCell']) (by have := hln.out; simp only [maxLen]; omega) (by have := hln.out; omega) (by simp; omega) ?_; intro v' w3 hown2 hgrow2 hnil2 hat2; clear hnil2 hat2; have s5 : w3.cell? ⟨w.heap.size, 0, none⟩ = some (.slice At nt ct) ∧ w3.cell? ⟨w.heap.size, 1, none⟩ = some (.slice Ak nk ck) ∧ w3.cell? ⟨w.heap.size, 2, none⟩ = some (.int .i64 a) ∧ w3.cell? ⟨w.heap.size, 3, none⟩ = some (.int .i64 b) ∧ w3.cell? ⟨w.heap.size, 4, none⟩ = some (.int .i64 c) ∧ w3.cell? ⟨w.heap.size, 5, none⟩ = some (.int .i64 d) ∧ w3.cell? ⟨w.heap.size, 6, none⟩ = some (.int .i64 e) ∧ w3.cell? ⟨w.heap.size, 7, none⟩ = some (.int .i64 W) ∧ w3.cell? ⟨w.heap.size, 8, none⟩ = some (.int .i64 H) ∧ w3.cell? ⟨w.heap.size, 9, none⟩ = some (x) ∧ w3.cell? ⟨w.heap.size, 10, none⟩ = some (r) ∧ w3.cell? ⟨w.heap.size, 11, none⟩ = some (y) ∧ Kp w w3 := ⟨hgrow2.cell (((Kp.refl w1).alloc (.cells #[.int .i64 (q : Int)] 3)).cell s1.1) (fun e => n0.out e.symm), hgrow2.cell (((Kp.refl w1).alloc (.cells #[.int .i64 (q : Int)] 3)).cell s1.2.1) (fun e => n1.out e.symm), hgrow2.cell (((Kp.refl w1).alloc (.cells #[.int .i64 (q : Int)] 3)).cell s1.2.2.1) (fun e => n2.out e.symm), hgrow2.cell (((Kp.refl w1).alloc (.cells #[.int .i64 (q : Int)] 3)).cell s1.2.2.2.1) (fun e => n3.out e.symm), hgrow2.cell (((Kp.refl w1).alloc (.cells #[.int .i64 (q : Int)] 3)).cell s1.2.2.2.2.1) (fun e => n4.out e.symm), hgrow2.cell (((Kp.refl w1).alloc (.cells #[.int .i64 (q : Int)] 3)).cell s1.2.2.2.2.2.1) (fun e => n5.out e.symm), hgrow2.cell (((Kp.refl w1).alloc (.cells #[.int .i64 (q : Int)] 3)).cell s1.2.2.2.2.2.2.1) (fun e => n6.out e.symm), hgrow2.cell (((Kp.refl w1).alloc (.cells #[.int .i64 (q : Int)] 3)).cell s1.2.2.2.2.2.2.2.1) (fun e => n7.out e.symm), hgrow2.cell (((Kp.refl w1).alloc (.cells #[.int .i64 (q : Int)] 3)).cell s1.2.2.2.2.2.2.2.2.1) (fun e => n8.out e.symm), hgrow2.cell (((Kp.refl w1).alloc (.cells #[.int .i64 (q : Int)] 3)).cell s1.2.2.2.2.2.2.2.2.2.1) (fun e => n9.out e.symm), hgrow2.cell (((Kp.refl w1).alloc (.cells #[.int .i64 (q : Int)] 3)).cell s1.2.2.2.2.2.2.2.2.2.2.1) (fun e => n10.out e.symm), hgrow2.cell (((Kp.refl w1).alloc (.cells #[.int .i64 (q : Int)] 3)).cell s1.2.2.2.2.2.2.2.2.2.2.2.1) (fun e => n11.out e.symm), (s1.2.2.2.2.2.2.2.2.2.2.2.2.alloc _).grown hgrow2 (fun k e => by have := (World.ownsRow.lt HO1.out k e).1; omega)⟩; have O3 := Lib.hid (OwnI.snoc (x := q) hown2); clear hown2 hgrow2)
          go_roundw
          case rel => exact ⟨q + 1, by omega, by go_num, by rw [HS.out]; exact O3.out, s5⟩
          case measure => simp [intOf]; omega
      · obtain rfl : q = nt := by omega
        go_wp2_with fail
        go_ret2
        exact ⟨_, rfl, hoR.base (by omega), sr.2.2.2.2.2.2.2.2.2.2.2.2⟩

end Go.Proofs.YtkkcnofplddbmaaDoor
