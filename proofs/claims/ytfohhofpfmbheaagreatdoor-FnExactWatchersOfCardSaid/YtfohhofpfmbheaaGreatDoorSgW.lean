/-
  SeenFrom, ClearFrom and SeenBy of both sides. In memory of their own; nothing that was there is changed. The named variables hold what the program's text lays.
-/
import Derived.Test.YtfohhofpfmbheaaGreatDoorSgV
import Derived.Test.YtfohhofpfmbheaaGreatDoorQa
namespace Go.Proofs.YtfohhofpfmbheaaGreatDoor
open Go.RowKit

theorem seenI_len (l : List Ter) (lt : List Int) (W i far q : Int) (n : Nat) : (seenI l lt W i far q n).length ≤ n :=
  Nat.le_trans (List.length_filter_le _ _) (nearF_len _ _ _ _ n)


set_option maxRecDepth 100000 in
set_option maxHeartbeats 4000000 in
theorem specSeenFrom_any (At Ak : Option Addr) (nt nk ct ck : Nat) (l : List Ter) (m : List Knd) (a b c d e W H : Int) (x r y : Value) (lt lr ld : List Int) (i far : Int) (w : World) (hB : BrdAt w At Ak nt nk l m x r y lt lr ld) :
    Calls Tryz.prog 24 #[bv (.slice At nt ct) (.slice Ak nk ck) a b c d e W H x r y, .int .i64 i, .int .i64 far] w (ListPostI ((brdOk ⟨l, m, a, b, c, d, e⟩ W H lt lr ld && onI W H i) && spB 0 20 far) (seenI l lt W i far 1 lt.length) w) := by
  have s0 : (w.alloc (.cells #[.slice At nt ct, .slice Ak nk ck, .int .i64 a, .int .i64 b, .int .i64 c, .int .i64 d, .int .i64 e, .int .i64 W, .int .i64 H, x, r, y] 41)).cell? ⟨w.heap.size, 0, none⟩ = some (.slice At nt ct) ∧ (w.alloc (.cells #[.slice At nt ct, .slice Ak nk ck, .int .i64 a, .int .i64 b, .int .i64 c, .int .i64 d, .int .i64 e, .int .i64 W, .int .i64 H, x, r, y] 41)).cell? ⟨w.heap.size, 1, none⟩ = some (.slice Ak nk ck) ∧ (w.alloc (.cells #[.slice At nt ct, .slice Ak nk ck, .int .i64 a, .int .i64 b, .int .i64 c, .int .i64 d, .int .i64 e, .int .i64 W, .int .i64 H, x, r, y] 41)).cell? ⟨w.heap.size, 2, none⟩ = some (.int .i64 a) ∧ (w.alloc (.cells #[.slice At nt ct, .slice Ak nk ck, .int .i64 a, .int .i64 b, .int .i64 c, .int .i64 d, .int .i64 e, .int .i64 W, .int .i64 H, x, r, y] 41)).cell? ⟨w.heap.size, 3, none⟩ = some (.int .i64 b) ∧ (w.alloc (.cells #[.slice At nt ct, .slice Ak nk ck, .int .i64 a, .int .i64 b, .int .i64 c, .int .i64 d, .int .i64 e, .int .i64 W, .int .i64 H, x, r, y] 41)).cell? ⟨w.heap.size, 4, none⟩ = some (.int .i64 c) ∧ (w.alloc (.cells #[.slice At nt ct, .slice Ak nk ck, .int .i64 a, .int .i64 b, .int .i64 c, .int .i64 d, .int .i64 e, .int .i64 W, .int .i64 H, x, r, y] 41)).cell? ⟨w.heap.size, 5, none⟩ = some (.int .i64 d) ∧ (w.alloc (.cells #[.slice At nt ct, .slice Ak nk ck, .int .i64 a, .int .i64 b, .int .i64 c, .int .i64 d, .int .i64 e, .int .i64 W, .int .i64 H, x, r, y] 41)).cell? ⟨w.heap.size, 6, none⟩ = some (.int .i64 e) ∧ (w.alloc (.cells #[.slice At nt ct, .slice Ak nk ck, .int .i64 a, .int .i64 b, .int .i64 c, .int .i64 d, .int .i64 e, .int .i64 W, .int .i64 H, x, r, y] 41)).cell? ⟨w.heap.size, 7, none⟩ = some (.int .i64 W) ∧ (w.alloc (.cells #[.slice At nt ct, .slice Ak nk ck, .int .i64 a, .int .i64 b, .int .i64 c, .int .i64 d, .int .i64 e, .int .i64 W, .int .i64 H, x, r, y] 41)).cell? ⟨w.heap.size, 8, none⟩ = some (.int .i64 H) ∧ (w.alloc (.cells #[.slice At nt ct, .slice Ak nk ck, .int .i64 a, .int .i64 b, .int .i64 c, .int .i64 d, .int .i64 e, .int .i64 W, .int .i64 H, x, r, y] 41)).cell? ⟨w.heap.size, 9, none⟩ = some (x) ∧ (w.alloc (.cells #[.slice At nt ct, .slice Ak nk ck, .int .i64 a, .int .i64 b, .int .i64 c, .int .i64 d, .int .i64 e, .int .i64 W, .int .i64 H, x, r, y] 41)).cell? ⟨w.heap.size, 10, none⟩ = some (r) ∧ (w.alloc (.cells #[.slice At nt ct, .slice Ak nk ck, .int .i64 a, .int .i64 b, .int .i64 c, .int .i64 d, .int .i64 e, .int .i64 W, .int .i64 H, x, r, y] 41)).cell? ⟨w.heap.size, 11, none⟩ = some (y) ∧ Kp w (w.alloc (.cells #[.slice At nt ct, .slice Ak nk ck, .int .i64 a, .int .i64 b, .int .i64 c, .int .i64 d, .int .i64 e, .int .i64 W, .int .i64 H, x, r, y] 41)) := ⟨by simp [go_sem], by simp [go_sem], by simp [go_sem], by simp [go_sem], by simp [go_sem], by simp [go_sem], by simp [go_sem], by simp [go_sem], by simp [go_sem], by simp [go_sem], by simp [go_sem], by simp [go_sem], (Kp.refl w).alloc _⟩
  have HB := Lib.hid hB
  have C1 := Lib.hid (fun (w : World) hB => bAt0_any At Ak nt nk ct ck l m a b c d e W H x r y lt lr ld i w hB)
  have CF : Hid (∀ w, Calls Tryz.prog 55 #[.int .i64 far, .int .i64 0, .int .i64 20] w fun e w' => e = .returned (.bool (spB 0 20 far)) ∧ w = w') := Lib.hid fun w => l1In_sp far 0 20 w
  have CV : Hid ((brdOk ⟨l, m, a, b, c, d, e⟩ W H lt lr ld && onI W H i) = true → spB 0 20 far = true → ∀ w, BrdAt w At Ak nt nk l m x r y lt lr ld → Calls Tryz.prog 56 #[bv (.slice At nt ct) (.slice Ak nk ck) a b c d e W H x r y, .int .i64 i, .int .i64 far, .int .i64 1] w fun e' w' => ∃ v, e' = .returned v ∧ OwnI w' w.heap.size v (seenI l lt W i far 1 lt.length) ∧ Kp w w') := Lib.hid fun h1 h2 w hB => by
    simp only [Bool.and_eq_true] at h1
    have := h2
    exact vSeen_any At Ak nt nk ct ck l m a b c d e W H x r y lt lr ld i far 1 w hB h1.1 h1.2
  clear hB
  cases hp : (brdOk ⟨l, m, a, b, c, d, e⟩ W H lt lr ld && onI W H i)
  · rw [hp] at C1
    clear CV CF
    go_enter Tryz.func24, Tryz.ntmps24
    go_wp2_with fail
    refine (C1.out _ (HB.out.keep s0.2.2.2.2.2.2.2.2.2.2.2.2)).mono ?_
    rintro e1 w1 ⟨rfl, k1⟩
    go_wp2_with fail
    go_ret2
    exact ListPostI.no (s0.2.2.2.2.2.2.2.2.2.2.2.2.trans k1)
  · rw [hp] at C1
    cases hq : spB 0 20 far
    · rw [hq] at CF
      clear CV hp hq
      go_enter Tryz.func24, Tryz.ntmps24
      go_wp2_with fail
      refine (C1.out _ (HB.out.keep s0.2.2.2.2.2.2.2.2.2.2.2.2)).mono ?_
      rintro e1 w1 ⟨rfl, k1⟩
      go_wp2_with fail
      refine (CF.out _).mono ?_
      rintro e2 w2 ⟨rfl, rfl⟩
      go_wp2_with fail
      go_ret2
      exact ListPostI.no (s0.2.2.2.2.2.2.2.2.2.2.2.2.trans k1)
    · rw [hq] at CF
      have CV2 := Lib.hid (CV.out hp hq)
      clear CV hp hq
      go_enter Tryz.func24, Tryz.ntmps24
      go_wp2_with fail
      refine (C1.out _ (HB.out.keep s0.2.2.2.2.2.2.2.2.2.2.2.2)).mono ?_
      rintro e1 w1 ⟨rfl, k1⟩
      have s1 := keep12k k1 s0
      clear s0
      go_wp2_with fail
      refine (CF.out _).mono ?_
      rintro e2 w2 ⟨rfl, rfl⟩
      go_wp2_with fail
      refine (CV2.out _ (HB.out.keep s1.2.2.2.2.2.2.2.2.2.2.2.2)).mono ?_
      rintro e3 w3 ⟨v, rfl, o3, k3⟩
      have O3 := Lib.hid (o3.base s1.2.2.2.2.2.2.2.2.2.2.2.2.size)
      clear o3
      go_wp2_with fail
      go_ret2
      exact ⟨_, rfl, O3.out, s1.2.2.2.2.2.2.2.2.2.2.2.2.trans k3⟩

set_option maxRecDepth 100000 in
set_option maxHeartbeats 4000000 in
theorem seenFromP_any (At Ak : Option Addr) (nt nk ct ck : Nat) (l : List Ter) (m : List Knd) (a b c d e W H : Int) (x r y : Value) (lt lr ld : List Int) (i far : Int) (w : World) (hs : Spans w) (ht : Tab w) (hg : SpanAt w 0 0 20) (hB : BrdAt w At Ak nt nk l m x r y lt lr ld) :
    Calls Tryz.prog 25 #[bv (.slice At nt ct) (.slice Ak nk ck) a b c d e W H x r y, .int .i64 i, .int .i64 far] w (ListPostI ((brdOk ⟨l, m, a, b, c, d, e⟩ W H lt lr ld && onI W H i) && spB 0 20 far) (seenI l lt W i far 1 lt.length) w) := by
  have s0 : (w.alloc (.cells #[.slice At nt ct, .slice Ak nk ck, .int .i64 a, .int .i64 b, .int .i64 c, .int .i64 d, .int .i64 e, .int .i64 W, .int .i64 H, x, r, y] 41)).cell? ⟨w.heap.size, 0, none⟩ = some (.slice At nt ct) ∧ (w.alloc (.cells #[.slice At nt ct, .slice Ak nk ck, .int .i64 a, .int .i64 b, .int .i64 c, .int .i64 d, .int .i64 e, .int .i64 W, .int .i64 H, x, r, y] 41)).cell? ⟨w.heap.size, 1, none⟩ = some (.slice Ak nk ck) ∧ (w.alloc (.cells #[.slice At nt ct, .slice Ak nk ck, .int .i64 a, .int .i64 b, .int .i64 c, .int .i64 d, .int .i64 e, .int .i64 W, .int .i64 H, x, r, y] 41)).cell? ⟨w.heap.size, 2, none⟩ = some (.int .i64 a) ∧ (w.alloc (.cells #[.slice At nt ct, .slice Ak nk ck, .int .i64 a, .int .i64 b, .int .i64 c, .int .i64 d, .int .i64 e, .int .i64 W, .int .i64 H, x, r, y] 41)).cell? ⟨w.heap.size, 3, none⟩ = some (.int .i64 b) ∧ (w.alloc (.cells #[.slice At nt ct, .slice Ak nk ck, .int .i64 a, .int .i64 b, .int .i64 c, .int .i64 d, .int .i64 e, .int .i64 W, .int .i64 H, x, r, y] 41)).cell? ⟨w.heap.size, 4, none⟩ = some (.int .i64 c) ∧ (w.alloc (.cells #[.slice At nt ct, .slice Ak nk ck, .int .i64 a, .int .i64 b, .int .i64 c, .int .i64 d, .int .i64 e, .int .i64 W, .int .i64 H, x, r, y] 41)).cell? ⟨w.heap.size, 5, none⟩ = some (.int .i64 d) ∧ (w.alloc (.cells #[.slice At nt ct, .slice Ak nk ck, .int .i64 a, .int .i64 b, .int .i64 c, .int .i64 d, .int .i64 e, .int .i64 W, .int .i64 H, x, r, y] 41)).cell? ⟨w.heap.size, 6, none⟩ = some (.int .i64 e) ∧ (w.alloc (.cells #[.slice At nt ct, .slice Ak nk ck, .int .i64 a, .int .i64 b, .int .i64 c, .int .i64 d, .int .i64 e, .int .i64 W, .int .i64 H, x, r, y] 41)).cell? ⟨w.heap.size, 7, none⟩ = some (.int .i64 W) ∧ (w.alloc (.cells #[.slice At nt ct, .slice Ak nk ck, .int .i64 a, .int .i64 b, .int .i64 c, .int .i64 d, .int .i64 e, .int .i64 W, .int .i64 H, x, r, y] 41)).cell? ⟨w.heap.size, 8, none⟩ = some (.int .i64 H) ∧ (w.alloc (.cells #[.slice At nt ct, .slice Ak nk ck, .int .i64 a, .int .i64 b, .int .i64 c, .int .i64 d, .int .i64 e, .int .i64 W, .int .i64 H, x, r, y] 41)).cell? ⟨w.heap.size, 9, none⟩ = some (x) ∧ (w.alloc (.cells #[.slice At nt ct, .slice Ak nk ck, .int .i64 a, .int .i64 b, .int .i64 c, .int .i64 d, .int .i64 e, .int .i64 W, .int .i64 H, x, r, y] 41)).cell? ⟨w.heap.size, 10, none⟩ = some (r) ∧ (w.alloc (.cells #[.slice At nt ct, .slice Ak nk ck, .int .i64 a, .int .i64 b, .int .i64 c, .int .i64 d, .int .i64 e, .int .i64 W, .int .i64 H, x, r, y] 41)).cell? ⟨w.heap.size, 11, none⟩ = some (y) ∧ Kp w (w.alloc (.cells #[.slice At nt ct, .slice Ak nk ck, .int .i64 a, .int .i64 b, .int .i64 c, .int .i64 d, .int .i64 e, .int .i64 W, .int .i64 H, x, r, y] 41)) := ⟨by simp [go_sem], by simp [go_sem], by simp [go_sem], by simp [go_sem], by simp [go_sem], by simp [go_sem], by simp [go_sem], by simp [go_sem], by simp [go_sem], by simp [go_sem], by simp [go_sem], by simp [go_sem], (Kp.refl w).alloc _⟩
  have HB := Lib.hid hB
  have HT := Lib.hid ht
  have HG := Lib.hid hg
  have s1 := keep12k ((Kp.refl _).alloc (.cells #[.int .i64 i] 3)) s0
  have C1 := Lib.hid (areOne_any At Ak nt nk ct ck l m a b c d e W H x r y lt lr ld i w hs ht hB)
  have CF : Hid (∀ w, Calls Tryz.prog 57 #[.agg #[.int .i64 0, .int .i64 20], .int .i64 far] w fun e w' => e = .returned (.bool (spB 0 20 far)) ∧ Kp w w') := Lib.hid fun w => has_any 0 20 far w
  have CV : Hid ((brdOk ⟨l, m, a, b, c, d, e⟩ W H lt lr ld && onI W H i) = true → spB 0 20 far = true → ∀ w, Tab w → BrdAt w At Ak nt nk l m x r y lt lr ld → Calls Tryz.prog 58 #[bv (.slice At nt ct) (.slice Ak nk ck) a b c d e W H x r y, .int .i64 i, .int .i64 far, .int .i64 1] w fun e' w' => ∃ v, e' = .returned v ∧ OwnI w' w.heap.size v (seenI l lt W i far 1 lt.length) ∧ Kp w w') := Lib.hid fun h1 h2 w ht hB => by
    simp only [Bool.and_eq_true] at h1
    simp only [spB, Bool.and_eq_true, decide_eq_true_iff] at h2
    exact inSight_any At Ak nt nk ct ck l m a b c d e W H x r y lt lr ld i far 1 w ht hB h1.1 h1.2 h2.1 h2.2
  clear hB hs ht hg
  cases hp : (brdOk ⟨l, m, a, b, c, d, e⟩ W H lt lr ld && onI W H i)
  · rw [hp] at C1
    clear CV CF
    go_enter Tryz.func25, Tryz.ntmps25
    go_wp2_with fail
    refine C1.out.mono ?_
    rintro e1 w1 ⟨rfl, k1⟩
    go_wp2_with fail
    go_ret2
    exact ListPostI.no (s1.2.2.2.2.2.2.2.2.2.2.2.2.trans k1)
  · rw [hp] at C1
    cases hq : spB 0 20 far
    · rw [hq] at CF
      clear CV hp hq
      go_enter Tryz.func25, Tryz.ntmps25
      go_wp2_with fail
      refine C1.out.mono ?_
      rintro e1 w1 ⟨rfl, k1⟩
      obtain ⟨g1, g2⟩ := (s1.2.2.2.2.2.2.2.2.2.2.2.2.trans k1).two HG.out
      go_wp2_with fail
      refine (CF.out _).mono ?_
      rintro e2 w2 ⟨rfl, k2⟩
      go_wp2_with fail
      go_ret2
      exact ListPostI.no ((s1.2.2.2.2.2.2.2.2.2.2.2.2.trans k1).trans k2)
    · rw [hq] at CF
      have CV2 := Lib.hid (CV.out hp hq)
      clear CV hp hq
      go_enter Tryz.func25, Tryz.ntmps25
      go_wp2_with fail
      refine C1.out.mono ?_
      rintro e1 w1 ⟨rfl, k1⟩
      obtain ⟨g1, g2⟩ := (s1.2.2.2.2.2.2.2.2.2.2.2.2.trans k1).two HG.out
      have s2 := keep12k k1 s1
      clear s0 s1
      go_wp2_with fail
      refine (CF.out _).mono ?_
      rintro e2 w2 ⟨rfl, k2⟩
      have s3 := keep12k k2 s2
      clear s2 g1 g2
      go_wp2_with fail
      refine (CV2.out _ (HT.out.keep s3.2.2.2.2.2.2.2.2.2.2.2.2) (HB.out.keep s3.2.2.2.2.2.2.2.2.2.2.2.2)).mono ?_
      rintro e3 w3 ⟨v, rfl, o3, k3⟩
      have O3 := Lib.hid (o3.base s3.2.2.2.2.2.2.2.2.2.2.2.2.size)
      clear o3
      go_wp2_with fail
      go_ret2
      exact ⟨_, rfl, O3.out, s3.2.2.2.2.2.2.2.2.2.2.2.2.trans k3⟩

set_option maxRecDepth 100000 in
set_option maxHeartbeats 4000000 in
theorem specClearFrom_any (At Ak : Option Addr) (nt nk ct ck : Nat) (l : List Ter) (m : List Knd) (a b c d e W H : Int) (x r y : Value) (lt lr ld : List Int) (i far : Int) (w : World) (hB : BrdAt w At Ak nt nk l m x r y lt lr ld) :
    Calls Tryz.prog 29 #[bv (.slice At nt ct) (.slice Ak nk ck) a b c d e W H x r y, .int .i64 i, .int .i64 far] w (ListPostI ((brdOk ⟨l, m, a, b, c, d, e⟩ W H lt lr ld && onI W H i) && spB 0 20 far) (seenI l lt W i far 0 lt.length) w) := by
  have s0 : (w.alloc (.cells #[.slice At nt ct, .slice Ak nk ck, .int .i64 a, .int .i64 b, .int .i64 c, .int .i64 d, .int .i64 e, .int .i64 W, .int .i64 H, x, r, y] 41)).cell? ⟨w.heap.size, 0, none⟩ = some (.slice At nt ct) ∧ (w.alloc (.cells #[.slice At nt ct, .slice Ak nk ck, .int .i64 a, .int .i64 b, .int .i64 c, .int .i64 d, .int .i64 e, .int .i64 W, .int .i64 H, x, r, y] 41)).cell? ⟨w.heap.size, 1, none⟩ = some (.slice Ak nk ck) ∧ (w.alloc (.cells #[.slice At nt ct, .slice Ak nk ck, .int .i64 a, .int .i64 b, .int .i64 c, .int .i64 d, .int .i64 e, .int .i64 W, .int .i64 H, x, r, y] 41)).cell? ⟨w.heap.size, 2, none⟩ = some (.int .i64 a) ∧ (w.alloc (.cells #[.slice At nt ct, .slice Ak nk ck, .int .i64 a, .int .i64 b, .int .i64 c, .int .i64 d, .int .i64 e, .int .i64 W, .int .i64 H, x, r, y] 41)).cell? ⟨w.heap.size, 3, none⟩ = some (.int .i64 b) ∧ (w.alloc (.cells #[.slice At nt ct, .slice Ak nk ck, .int .i64 a, .int .i64 b, .int .i64 c, .int .i64 d, .int .i64 e, .int .i64 W, .int .i64 H, x, r, y] 41)).cell? ⟨w.heap.size, 4, none⟩ = some (.int .i64 c) ∧ (w.alloc (.cells #[.slice At nt ct, .slice Ak nk ck, .int .i64 a, .int .i64 b, .int .i64 c, .int .i64 d, .int .i64 e, .int .i64 W, .int .i64 H, x, r, y] 41)).cell? ⟨w.heap.size, 5, none⟩ = some (.int .i64 d) ∧ (w.alloc (.cells #[.slice At nt ct, .slice Ak nk ck, .int .i64 a, .int .i64 b, .int .i64 c, .int .i64 d, .int .i64 e, .int .i64 W, .int .i64 H, x, r, y] 41)).cell? ⟨w.heap.size, 6, none⟩ = some (.int .i64 e) ∧ (w.alloc (.cells #[.slice At nt ct, .slice Ak nk ck, .int .i64 a, .int .i64 b, .int .i64 c, .int .i64 d, .int .i64 e, .int .i64 W, .int .i64 H, x, r, y] 41)).cell? ⟨w.heap.size, 7, none⟩ = some (.int .i64 W) ∧ (w.alloc (.cells #[.slice At nt ct, .slice Ak nk ck, .int .i64 a, .int .i64 b, .int .i64 c, .int .i64 d, .int .i64 e, .int .i64 W, .int .i64 H, x, r, y] 41)).cell? ⟨w.heap.size, 8, none⟩ = some (.int .i64 H) ∧ (w.alloc (.cells #[.slice At nt ct, .slice Ak nk ck, .int .i64 a, .int .i64 b, .int .i64 c, .int .i64 d, .int .i64 e, .int .i64 W, .int .i64 H, x, r, y] 41)).cell? ⟨w.heap.size, 9, none⟩ = some (x) ∧ (w.alloc (.cells #[.slice At nt ct, .slice Ak nk ck, .int .i64 a, .int .i64 b, .int .i64 c, .int .i64 d, .int .i64 e, .int .i64 W, .int .i64 H, x, r, y] 41)).cell? ⟨w.heap.size, 10, none⟩ = some (r) ∧ (w.alloc (.cells #[.slice At nt ct, .slice Ak nk ck, .int .i64 a, .int .i64 b, .int .i64 c, .int .i64 d, .int .i64 e, .int .i64 W, .int .i64 H, x, r, y] 41)).cell? ⟨w.heap.size, 11, none⟩ = some (y) ∧ Kp w (w.alloc (.cells #[.slice At nt ct, .slice Ak nk ck, .int .i64 a, .int .i64 b, .int .i64 c, .int .i64 d, .int .i64 e, .int .i64 W, .int .i64 H, x, r, y] 41)) := ⟨by simp [go_sem], by simp [go_sem], by simp [go_sem], by simp [go_sem], by simp [go_sem], by simp [go_sem], by simp [go_sem], by simp [go_sem], by simp [go_sem], by simp [go_sem], by simp [go_sem], by simp [go_sem], (Kp.refl w).alloc _⟩
  have HB := Lib.hid hB
  have C1 := Lib.hid (fun (w : World) hB => bAt0_any At Ak nt nk ct ck l m a b c d e W H x r y lt lr ld i w hB)
  have CF : Hid (∀ w, Calls Tryz.prog 55 #[.int .i64 far, .int .i64 0, .int .i64 20] w fun e w' => e = .returned (.bool (spB 0 20 far)) ∧ w = w') := Lib.hid fun w => l1In_sp far 0 20 w
  have CV : Hid ((brdOk ⟨l, m, a, b, c, d, e⟩ W H lt lr ld && onI W H i) = true → spB 0 20 far = true → ∀ w, BrdAt w At Ak nt nk l m x r y lt lr ld → Calls Tryz.prog 56 #[bv (.slice At nt ct) (.slice Ak nk ck) a b c d e W H x r y, .int .i64 i, .int .i64 far, .int .i64 0] w fun e' w' => ∃ v, e' = .returned v ∧ OwnI w' w.heap.size v (seenI l lt W i far 0 lt.length) ∧ Kp w w') := Lib.hid fun h1 h2 w hB => by
    simp only [Bool.and_eq_true] at h1
    have := h2
    exact vSeen_any At Ak nt nk ct ck l m a b c d e W H x r y lt lr ld i far 0 w hB h1.1 h1.2
  clear hB
  cases hp : (brdOk ⟨l, m, a, b, c, d, e⟩ W H lt lr ld && onI W H i)
  · rw [hp] at C1
    clear CV CF
    go_enter Tryz.func29, Tryz.ntmps29
    go_wp2_with fail
    refine (C1.out _ (HB.out.keep s0.2.2.2.2.2.2.2.2.2.2.2.2)).mono ?_
    rintro e1 w1 ⟨rfl, k1⟩
    go_wp2_with fail
    go_ret2
    exact ListPostI.no (s0.2.2.2.2.2.2.2.2.2.2.2.2.trans k1)
  · rw [hp] at C1
    cases hq : spB 0 20 far
    · rw [hq] at CF
      clear CV hp hq
      go_enter Tryz.func29, Tryz.ntmps29
      go_wp2_with fail
      refine (C1.out _ (HB.out.keep s0.2.2.2.2.2.2.2.2.2.2.2.2)).mono ?_
      rintro e1 w1 ⟨rfl, k1⟩
      go_wp2_with fail
      refine (CF.out _).mono ?_
      rintro e2 w2 ⟨rfl, rfl⟩
      go_wp2_with fail
      go_ret2
      exact ListPostI.no (s0.2.2.2.2.2.2.2.2.2.2.2.2.trans k1)
    · rw [hq] at CF
      have CV2 := Lib.hid (CV.out hp hq)
      clear CV hp hq
      go_enter Tryz.func29, Tryz.ntmps29
      go_wp2_with fail
      refine (C1.out _ (HB.out.keep s0.2.2.2.2.2.2.2.2.2.2.2.2)).mono ?_
      rintro e1 w1 ⟨rfl, k1⟩
      have s1 := keep12k k1 s0
      clear s0
      go_wp2_with fail
      refine (CF.out _).mono ?_
      rintro e2 w2 ⟨rfl, rfl⟩
      go_wp2_with fail
      refine (CV2.out _ (HB.out.keep s1.2.2.2.2.2.2.2.2.2.2.2.2)).mono ?_
      rintro e3 w3 ⟨v, rfl, o3, k3⟩
      have O3 := Lib.hid (o3.base s1.2.2.2.2.2.2.2.2.2.2.2.2.size)
      clear o3
      go_wp2_with fail
      go_ret2
      exact ⟨_, rfl, O3.out, s1.2.2.2.2.2.2.2.2.2.2.2.2.trans k3⟩

set_option maxRecDepth 100000 in
set_option maxHeartbeats 4000000 in
theorem clearFromP_any (At Ak : Option Addr) (nt nk ct ck : Nat) (l : List Ter) (m : List Knd) (a b c d e W H : Int) (x r y : Value) (lt lr ld : List Int) (i far : Int) (w : World) (hs : Spans w) (ht : Tab w) (hg : SpanAt w 0 0 20) (hB : BrdAt w At Ak nt nk l m x r y lt lr ld) :
    Calls Tryz.prog 30 #[bv (.slice At nt ct) (.slice Ak nk ck) a b c d e W H x r y, .int .i64 i, .int .i64 far] w (ListPostI ((brdOk ⟨l, m, a, b, c, d, e⟩ W H lt lr ld && onI W H i) && spB 0 20 far) (seenI l lt W i far 0 lt.length) w) := by
  have s0 : (w.alloc (.cells #[.slice At nt ct, .slice Ak nk ck, .int .i64 a, .int .i64 b, .int .i64 c, .int .i64 d, .int .i64 e, .int .i64 W, .int .i64 H, x, r, y] 41)).cell? ⟨w.heap.size, 0, none⟩ = some (.slice At nt ct) ∧ (w.alloc (.cells #[.slice At nt ct, .slice Ak nk ck, .int .i64 a, .int .i64 b, .int .i64 c, .int .i64 d, .int .i64 e, .int .i64 W, .int .i64 H, x, r, y] 41)).cell? ⟨w.heap.size, 1, none⟩ = some (.slice Ak nk ck) ∧ (w.alloc (.cells #[.slice At nt ct, .slice Ak nk ck, .int .i64 a, .int .i64 b, .int .i64 c, .int .i64 d, .int .i64 e, .int .i64 W, .int .i64 H, x, r, y] 41)).cell? ⟨w.heap.size, 2, none⟩ = some (.int .i64 a) ∧ (w.alloc (.cells #[.slice At nt ct, .slice Ak nk ck, .int .i64 a, .int .i64 b, .int .i64 c, .int .i64 d, .int .i64 e, .int .i64 W, .int .i64 H, x, r, y] 41)).cell? ⟨w.heap.size, 3, none⟩ = some (.int .i64 b) ∧ (w.alloc (.cells #[.slice At nt ct, .slice Ak nk ck, .int .i64 a, .int .i64 b, .int .i64 c, .int .i64 d, .int .i64 e, .int .i64 W, .int .i64 H, x, r, y] 41)).cell? ⟨w.heap.size, 4, none⟩ = some (.int .i64 c) ∧ (w.alloc (.cells #[.slice At nt ct, .slice Ak nk ck, .int .i64 a, .int .i64 b, .int .i64 c, .int .i64 d, .int .i64 e, .int .i64 W, .int .i64 H, x, r, y] 41)).cell? ⟨w.heap.size, 5, none⟩ = some (.int .i64 d) ∧ (w.alloc (.cells #[.slice At nt ct, .slice Ak nk ck, .int .i64 a, .int .i64 b, .int .i64 c, .int .i64 d, .int .i64 e, .int .i64 W, .int .i64 H, x, r, y] 41)).cell? ⟨w.heap.size, 6, none⟩ = some (.int .i64 e) ∧ (w.alloc (.cells #[.slice At nt ct, .slice Ak nk ck, .int .i64 a, .int .i64 b, .int .i64 c, .int .i64 d, .int .i64 e, .int .i64 W, .int .i64 H, x, r, y] 41)).cell? ⟨w.heap.size, 7, none⟩ = some (.int .i64 W) ∧ (w.alloc (.cells #[.slice At nt ct, .slice Ak nk ck, .int .i64 a, .int .i64 b, .int .i64 c, .int .i64 d, .int .i64 e, .int .i64 W, .int .i64 H, x, r, y] 41)).cell? ⟨w.heap.size, 8, none⟩ = some (.int .i64 H) ∧ (w.alloc (.cells #[.slice At nt ct, .slice Ak nk ck, .int .i64 a, .int .i64 b, .int .i64 c, .int .i64 d, .int .i64 e, .int .i64 W, .int .i64 H, x, r, y] 41)).cell? ⟨w.heap.size, 9, none⟩ = some (x) ∧ (w.alloc (.cells #[.slice At nt ct, .slice Ak nk ck, .int .i64 a, .int .i64 b, .int .i64 c, .int .i64 d, .int .i64 e, .int .i64 W, .int .i64 H, x, r, y] 41)).cell? ⟨w.heap.size, 10, none⟩ = some (r) ∧ (w.alloc (.cells #[.slice At nt ct, .slice Ak nk ck, .int .i64 a, .int .i64 b, .int .i64 c, .int .i64 d, .int .i64 e, .int .i64 W, .int .i64 H, x, r, y] 41)).cell? ⟨w.heap.size, 11, none⟩ = some (y) ∧ Kp w (w.alloc (.cells #[.slice At nt ct, .slice Ak nk ck, .int .i64 a, .int .i64 b, .int .i64 c, .int .i64 d, .int .i64 e, .int .i64 W, .int .i64 H, x, r, y] 41)) := ⟨by simp [go_sem], by simp [go_sem], by simp [go_sem], by simp [go_sem], by simp [go_sem], by simp [go_sem], by simp [go_sem], by simp [go_sem], by simp [go_sem], by simp [go_sem], by simp [go_sem], by simp [go_sem], (Kp.refl w).alloc _⟩
  have HB := Lib.hid hB
  have HT := Lib.hid ht
  have HG := Lib.hid hg
  have s1 := keep12k ((Kp.refl _).alloc (.cells #[.int .i64 i] 3)) s0
  have C1 := Lib.hid (areOne_any At Ak nt nk ct ck l m a b c d e W H x r y lt lr ld i w hs ht hB)
  have CF : Hid (∀ w, Calls Tryz.prog 57 #[.agg #[.int .i64 0, .int .i64 20], .int .i64 far] w fun e w' => e = .returned (.bool (spB 0 20 far)) ∧ Kp w w') := Lib.hid fun w => has_any 0 20 far w
  have CV : Hid ((brdOk ⟨l, m, a, b, c, d, e⟩ W H lt lr ld && onI W H i) = true → spB 0 20 far = true → ∀ w, Tab w → BrdAt w At Ak nt nk l m x r y lt lr ld → Calls Tryz.prog 58 #[bv (.slice At nt ct) (.slice Ak nk ck) a b c d e W H x r y, .int .i64 i, .int .i64 far, .int .i64 0] w fun e' w' => ∃ v, e' = .returned v ∧ OwnI w' w.heap.size v (seenI l lt W i far 0 lt.length) ∧ Kp w w') := Lib.hid fun h1 h2 w ht hB => by
    simp only [Bool.and_eq_true] at h1
    simp only [spB, Bool.and_eq_true, decide_eq_true_iff] at h2
    exact inSight_any At Ak nt nk ct ck l m a b c d e W H x r y lt lr ld i far 0 w ht hB h1.1 h1.2 h2.1 h2.2
  clear hB hs ht hg
  cases hp : (brdOk ⟨l, m, a, b, c, d, e⟩ W H lt lr ld && onI W H i)
  · rw [hp] at C1
    clear CV CF
    go_enter Tryz.func30, Tryz.ntmps30
    go_wp2_with fail
    refine C1.out.mono ?_
    rintro e1 w1 ⟨rfl, k1⟩
    go_wp2_with fail
    go_ret2
    exact ListPostI.no (s1.2.2.2.2.2.2.2.2.2.2.2.2.trans k1)
  · rw [hp] at C1
    cases hq : spB 0 20 far
    · rw [hq] at CF
      clear CV hp hq
      go_enter Tryz.func30, Tryz.ntmps30
      go_wp2_with fail
      refine C1.out.mono ?_
      rintro e1 w1 ⟨rfl, k1⟩
      obtain ⟨g1, g2⟩ := (s1.2.2.2.2.2.2.2.2.2.2.2.2.trans k1).two HG.out
      go_wp2_with fail
      refine (CF.out _).mono ?_
      rintro e2 w2 ⟨rfl, k2⟩
      go_wp2_with fail
      go_ret2
      exact ListPostI.no ((s1.2.2.2.2.2.2.2.2.2.2.2.2.trans k1).trans k2)
    · rw [hq] at CF
      have CV2 := Lib.hid (CV.out hp hq)
      clear CV hp hq
      go_enter Tryz.func30, Tryz.ntmps30
      go_wp2_with fail
      refine C1.out.mono ?_
      rintro e1 w1 ⟨rfl, k1⟩
      obtain ⟨g1, g2⟩ := (s1.2.2.2.2.2.2.2.2.2.2.2.2.trans k1).two HG.out
      have s2 := keep12k k1 s1
      clear s0 s1
      go_wp2_with fail
      refine (CF.out _).mono ?_
      rintro e2 w2 ⟨rfl, k2⟩
      have s3 := keep12k k2 s2
      clear s2 g1 g2
      go_wp2_with fail
      refine (CV2.out _ (HT.out.keep s3.2.2.2.2.2.2.2.2.2.2.2.2) (HB.out.keep s3.2.2.2.2.2.2.2.2.2.2.2.2)).mono ?_
      rintro e3 w3 ⟨v, rfl, o3, k3⟩
      have O3 := Lib.hid (o3.base s3.2.2.2.2.2.2.2.2.2.2.2.2.size)
      clear o3
      go_wp2_with fail
      go_ret2
      exact ⟨_, rfl, O3.out, s3.2.2.2.2.2.2.2.2.2.2.2.2.trans k3⟩

set_option maxRecDepth 100000 in
set_option maxHeartbeats 4000000 in
theorem specSeenBy_any (At Ak : Option Addr) (nt nk ct ck : Nat) (l : List Ter) (m : List Knd) (a b c d e W H : Int) (x r y : Value) (lt lr ld : List Int) (k i : Int) (w : World) (hB : BrdAt w At Ak nt nk l m x r y lt lr ld) :
    Calls Tryz.prog 31 #[bv (.slice At nt ct) (.slice Ak nk ck) a b c d e W H x r y, .int .i64 k, .int .i64 i] w (ListPostI (brdOk ⟨l, m, a, b, c, d, e⟩ W H lt lr ld && inB k nk && onI W H i) (byI l m lt W i k.toNat lt.length) w) := by
  have s0 : (w.alloc (.cells #[.slice At nt ct, .slice Ak nk ck, .int .i64 a, .int .i64 b, .int .i64 c, .int .i64 d, .int .i64 e, .int .i64 W, .int .i64 H, x, r, y] 41)).cell? ⟨w.heap.size, 0, none⟩ = some (.slice At nt ct) ∧ (w.alloc (.cells #[.slice At nt ct, .slice Ak nk ck, .int .i64 a, .int .i64 b, .int .i64 c, .int .i64 d, .int .i64 e, .int .i64 W, .int .i64 H, x, r, y] 41)).cell? ⟨w.heap.size, 1, none⟩ = some (.slice Ak nk ck) ∧ (w.alloc (.cells #[.slice At nt ct, .slice Ak nk ck, .int .i64 a, .int .i64 b, .int .i64 c, .int .i64 d, .int .i64 e, .int .i64 W, .int .i64 H, x, r, y] 41)).cell? ⟨w.heap.size, 2, none⟩ = some (.int .i64 a) ∧ (w.alloc (.cells #[.slice At nt ct, .slice Ak nk ck, .int .i64 a, .int .i64 b, .int .i64 c, .int .i64 d, .int .i64 e, .int .i64 W, .int .i64 H, x, r, y] 41)).cell? ⟨w.heap.size, 3, none⟩ = some (.int .i64 b) ∧ (w.alloc (.cells #[.slice At nt ct, .slice Ak nk ck, .int .i64 a, .int .i64 b, .int .i64 c, .int .i64 d, .int .i64 e, .int .i64 W, .int .i64 H, x, r, y] 41)).cell? ⟨w.heap.size, 4, none⟩ = some (.int .i64 c) ∧ (w.alloc (.cells #[.slice At nt ct, .slice Ak nk ck, .int .i64 a, .int .i64 b, .int .i64 c, .int .i64 d, .int .i64 e, .int .i64 W, .int .i64 H, x, r, y] 41)).cell? ⟨w.heap.size, 5, none⟩ = some (.int .i64 d) ∧ (w.alloc (.cells #[.slice At nt ct, .slice Ak nk ck, .int .i64 a, .int .i64 b, .int .i64 c, .int .i64 d, .int .i64 e, .int .i64 W, .int .i64 H, x, r, y] 41)).cell? ⟨w.heap.size, 6, none⟩ = some (.int .i64 e) ∧ (w.alloc (.cells #[.slice At nt ct, .slice Ak nk ck, .int .i64 a, .int .i64 b, .int .i64 c, .int .i64 d, .int .i64 e, .int .i64 W, .int .i64 H, x, r, y] 41)).cell? ⟨w.heap.size, 7, none⟩ = some (.int .i64 W) ∧ (w.alloc (.cells #[.slice At nt ct, .slice Ak nk ck, .int .i64 a, .int .i64 b, .int .i64 c, .int .i64 d, .int .i64 e, .int .i64 W, .int .i64 H, x, r, y] 41)).cell? ⟨w.heap.size, 8, none⟩ = some (.int .i64 H) ∧ (w.alloc (.cells #[.slice At nt ct, .slice Ak nk ck, .int .i64 a, .int .i64 b, .int .i64 c, .int .i64 d, .int .i64 e, .int .i64 W, .int .i64 H, x, r, y] 41)).cell? ⟨w.heap.size, 9, none⟩ = some (x) ∧ (w.alloc (.cells #[.slice At nt ct, .slice Ak nk ck, .int .i64 a, .int .i64 b, .int .i64 c, .int .i64 d, .int .i64 e, .int .i64 W, .int .i64 H, x, r, y] 41)).cell? ⟨w.heap.size, 10, none⟩ = some (r) ∧ (w.alloc (.cells #[.slice At nt ct, .slice Ak nk ck, .int .i64 a, .int .i64 b, .int .i64 c, .int .i64 d, .int .i64 e, .int .i64 W, .int .i64 H, x, r, y] 41)).cell? ⟨w.heap.size, 11, none⟩ = some (y) ∧ Kp w (w.alloc (.cells #[.slice At nt ct, .slice Ak nk ck, .int .i64 a, .int .i64 b, .int .i64 c, .int .i64 d, .int .i64 e, .int .i64 W, .int .i64 H, x, r, y] 41)) := ⟨by simp [go_sem], by simp [go_sem], by simp [go_sem], by simp [go_sem], by simp [go_sem], by simp [go_sem], by simp [go_sem], by simp [go_sem], by simp [go_sem], by simp [go_sem], by simp [go_sem], by simp [go_sem], (Kp.refl w).alloc _⟩
  have HB := Lib.hid hB
  have C1 := Lib.hid (fun (w : World) hB => bAt_any At Ak nt nk ct ck l m a b c d e W H x r y lt lr ld k i w hB)
  have CV : Hid ((brdOk ⟨l, m, a, b, c, d, e⟩ W H lt lr ld && inB k nk && onI W H i) = true → ∀ w, BrdAt w At Ak nt nk l m x r y lt lr ld → Calls Tryz.prog 59 #[bv (.slice At nt ct) (.slice Ak nk ck) a b c d e W H x r y, .int .i64 k, .int .i64 i] w fun e' w' => ∃ v, e' = .returned v ∧ OwnI w' w.heap.size v (byI l m lt W i k.toNat lt.length) ∧ Kp w w') := Lib.hid fun h1 w hB => by
    simp only [Bool.and_eq_true] at h1
    obtain ⟨k', rfl, hk'⟩ := inB_at h1.1.2
    exact vBy_any At Ak nt nk ct ck l m a b c d e W H x r y lt lr ld k' i w hB h1.1.1 (by have := hB.R.rk.1; omega) h1.2
  clear hB
  cases hp : (brdOk ⟨l, m, a, b, c, d, e⟩ W H lt lr ld && inB k nk && onI W H i)
  · rw [hp] at C1
    clear CV
    go_enter Tryz.func31, Tryz.ntmps31
    go_wp2_with fail
    refine (C1.out _ (HB.out.keep s0.2.2.2.2.2.2.2.2.2.2.2.2)).mono ?_
    rintro e1 w1 ⟨rfl, k1⟩
    go_wp2_with fail
    go_ret2
    exact ListPostI.no (s0.2.2.2.2.2.2.2.2.2.2.2.2.trans k1)
  · rw [hp] at C1
    have CV2 := Lib.hid (CV.out hp)
    clear CV hp
    go_enter Tryz.func31, Tryz.ntmps31
    go_wp2_with fail
    refine (C1.out _ (HB.out.keep s0.2.2.2.2.2.2.2.2.2.2.2.2)).mono ?_
    rintro e1 w1 ⟨rfl, k1⟩
    have s1 := keep12k k1 s0
    clear s0
    go_wp2_with fail
    refine (CV2.out _ (HB.out.keep s1.2.2.2.2.2.2.2.2.2.2.2.2)).mono ?_
    rintro e3 w3 ⟨v, rfl, o3, k3⟩
    have O3 := Lib.hid (o3.base s1.2.2.2.2.2.2.2.2.2.2.2.2.size)
    clear o3
    go_wp2_with fail
    go_ret2
    exact ⟨_, rfl, O3.out, s1.2.2.2.2.2.2.2.2.2.2.2.2.trans k3⟩

set_option maxRecDepth 100000 in
set_option maxHeartbeats 4000000 in
theorem seenByP_any (At Ak : Option Addr) (nt nk ct ck : Nat) (l : List Ter) (m : List Knd) (a b c d e W H : Int) (x r y : Value) (lt lr ld : List Int) (k i : Int) (w : World) (hs : Spans w) (ht : Tab w) (hB : BrdAt w At Ak nt nk l m x r y lt lr ld) :
    Calls Tryz.prog 32 #[bv (.slice At nt ct) (.slice Ak nk ck) a b c d e W H x r y, .int .i64 k, .int .i64 i] w (ListPostI (brdOk ⟨l, m, a, b, c, d, e⟩ W H lt lr ld && inB k nk && onI W H i) (byI l m lt W i k.toNat lt.length) w) := by
  have s0 : (w.alloc (.cells #[.slice At nt ct, .slice Ak nk ck, .int .i64 a, .int .i64 b, .int .i64 c, .int .i64 d, .int .i64 e, .int .i64 W, .int .i64 H, x, r, y] 41)).cell? ⟨w.heap.size, 0, none⟩ = some (.slice At nt ct) ∧ (w.alloc (.cells #[.slice At nt ct, .slice Ak nk ck, .int .i64 a, .int .i64 b, .int .i64 c, .int .i64 d, .int .i64 e, .int .i64 W, .int .i64 H, x, r, y] 41)).cell? ⟨w.heap.size, 1, none⟩ = some (.slice Ak nk ck) ∧ (w.alloc (.cells #[.slice At nt ct, .slice Ak nk ck, .int .i64 a, .int .i64 b, .int .i64 c, .int .i64 d, .int .i64 e, .int .i64 W, .int .i64 H, x, r, y] 41)).cell? ⟨w.heap.size, 2, none⟩ = some (.int .i64 a) ∧ (w.alloc (.cells #[.slice At nt ct, .slice Ak nk ck, .int .i64 a, .int .i64 b, .int .i64 c, .int .i64 d, .int .i64 e, .int .i64 W, .int .i64 H, x, r, y] 41)).cell? ⟨w.heap.size, 3, none⟩ = some (.int .i64 b) ∧ (w.alloc (.cells #[.slice At nt ct, .slice Ak nk ck, .int .i64 a, .int .i64 b, .int .i64 c, .int .i64 d, .int .i64 e, .int .i64 W, .int .i64 H, x, r, y] 41)).cell? ⟨w.heap.size, 4, none⟩ = some (.int .i64 c) ∧ (w.alloc (.cells #[.slice At nt ct, .slice Ak nk ck, .int .i64 a, .int .i64 b, .int .i64 c, .int .i64 d, .int .i64 e, .int .i64 W, .int .i64 H, x, r, y] 41)).cell? ⟨w.heap.size, 5, none⟩ = some (.int .i64 d) ∧ (w.alloc (.cells #[.slice At nt ct, .slice Ak nk ck, .int .i64 a, .int .i64 b, .int .i64 c, .int .i64 d, .int .i64 e, .int .i64 W, .int .i64 H, x, r, y] 41)).cell? ⟨w.heap.size, 6, none⟩ = some (.int .i64 e) ∧ (w.alloc (.cells #[.slice At nt ct, .slice Ak nk ck, .int .i64 a, .int .i64 b, .int .i64 c, .int .i64 d, .int .i64 e, .int .i64 W, .int .i64 H, x, r, y] 41)).cell? ⟨w.heap.size, 7, none⟩ = some (.int .i64 W) ∧ (w.alloc (.cells #[.slice At nt ct, .slice Ak nk ck, .int .i64 a, .int .i64 b, .int .i64 c, .int .i64 d, .int .i64 e, .int .i64 W, .int .i64 H, x, r, y] 41)).cell? ⟨w.heap.size, 8, none⟩ = some (.int .i64 H) ∧ (w.alloc (.cells #[.slice At nt ct, .slice Ak nk ck, .int .i64 a, .int .i64 b, .int .i64 c, .int .i64 d, .int .i64 e, .int .i64 W, .int .i64 H, x, r, y] 41)).cell? ⟨w.heap.size, 9, none⟩ = some (x) ∧ (w.alloc (.cells #[.slice At nt ct, .slice Ak nk ck, .int .i64 a, .int .i64 b, .int .i64 c, .int .i64 d, .int .i64 e, .int .i64 W, .int .i64 H, x, r, y] 41)).cell? ⟨w.heap.size, 10, none⟩ = some (r) ∧ (w.alloc (.cells #[.slice At nt ct, .slice Ak nk ck, .int .i64 a, .int .i64 b, .int .i64 c, .int .i64 d, .int .i64 e, .int .i64 W, .int .i64 H, x, r, y] 41)).cell? ⟨w.heap.size, 11, none⟩ = some (y) ∧ Kp w (w.alloc (.cells #[.slice At nt ct, .slice Ak nk ck, .int .i64 a, .int .i64 b, .int .i64 c, .int .i64 d, .int .i64 e, .int .i64 W, .int .i64 H, x, r, y] 41)) := ⟨by simp [go_sem], by simp [go_sem], by simp [go_sem], by simp [go_sem], by simp [go_sem], by simp [go_sem], by simp [go_sem], by simp [go_sem], by simp [go_sem], by simp [go_sem], by simp [go_sem], by simp [go_sem], (Kp.refl w).alloc _⟩
  have HB := Lib.hid hB
  have HT := Lib.hid ht
  have HS := Lib.hid hs
  have C1 := Lib.hid (fun (w : World) hs ht hB => isKindOn_any At Ak nt nk ct ck l m a b c d e W H x r y lt lr ld k w hs ht hB)
  have CX : Hid ((brdOk ⟨l, m, a, b, c, d, e⟩ W H lt lr ld && inB k nk) = true → ∀ w, Calls Tryz.prog 61 #[mp W H x r y, .int .i64 i] w fun e w' => e = .returned (.bool (onI W H i)) ∧ Kp w w') := Lib.hid fun h1 w => by
    simp only [Bool.and_eq_true] at h1
    obtain ⟨p1, p2, p3, p4⟩ := mapOk_side (brdOk_map h1.1)
    exact isIndex_any W H x r y i w p1 p2 p3 p4
  have CV : Hid ((brdOk ⟨l, m, a, b, c, d, e⟩ W H lt lr ld && inB k nk && onI W H i) = true → ∀ w, Tab w → BrdAt w At Ak nt nk l m x r y lt lr ld → Calls Tryz.prog 62 #[bv (.slice At nt ct) (.slice Ak nk ck) a b c d e W H x r y, .int .i64 k, .int .i64 i] w fun e' w' => ∃ v, e' = .returned v ∧ OwnI w' w.heap.size v (byI l m lt W i k.toNat lt.length) ∧ Kp w w') := Lib.hid fun h1 w ht hB => by
    simp only [Bool.and_eq_true] at h1
    obtain ⟨k', rfl, hk'⟩ := inB_at h1.1.2
    exact seenBy_any At Ak nt nk ct ck l m a b c d e W H x r y lt lr ld k' i w ht hB h1.1.1 (by have := hB.R.rk.1; omega) h1.2
  clear hB hs ht
  cases hp : (brdOk ⟨l, m, a, b, c, d, e⟩ W H lt lr ld && inB k nk)
  · rw [hp] at C1
    clear CV CX
    go_enter Tryz.func32, Tryz.ntmps32
    go_wp2_with fail
    refine (C1.out _ (HS.out.keep s0.2.2.2.2.2.2.2.2.2.2.2.2) (HT.out.keep s0.2.2.2.2.2.2.2.2.2.2.2.2) (HB.out.keep s0.2.2.2.2.2.2.2.2.2.2.2.2)).mono ?_
    rintro e1 w1 ⟨rfl, k1⟩
    go_wp2_with fail
    go_ret2
    exact ListPostI.no (s0.2.2.2.2.2.2.2.2.2.2.2.2.trans k1)
  · rw [hp] at C1
    have CX2 := Lib.hid (CX.out hp)
    cases hq : onI W H i
    · rw [hq] at CX2
      clear CV CX hp hq
      go_enter Tryz.func32, Tryz.ntmps32
      go_wp2_with fail
      refine (C1.out _ (HS.out.keep s0.2.2.2.2.2.2.2.2.2.2.2.2) (HT.out.keep s0.2.2.2.2.2.2.2.2.2.2.2.2) (HB.out.keep s0.2.2.2.2.2.2.2.2.2.2.2.2)).mono ?_
      rintro e1 w1 ⟨rfl, k1⟩
      have s1 := keep12k k1 s0
      clear s0
      go_wp2_with fail
      refine (CX2.out _).mono ?_
      rintro e2 w2 ⟨rfl, k2⟩
      go_wp2_with fail
      go_ret2
      exact ListPostI.no (s1.2.2.2.2.2.2.2.2.2.2.2.2.trans k2)
    · rw [hq] at CX2
      have CV2 := Lib.hid (CV.out (by rw [hp, hq]; rfl))
      clear CV CX hp hq
      go_enter Tryz.func32, Tryz.ntmps32
      go_wp2_with fail
      refine (C1.out _ (HS.out.keep s0.2.2.2.2.2.2.2.2.2.2.2.2) (HT.out.keep s0.2.2.2.2.2.2.2.2.2.2.2.2) (HB.out.keep s0.2.2.2.2.2.2.2.2.2.2.2.2)).mono ?_
      rintro e1 w1 ⟨rfl, k1⟩
      have s1 := keep12k k1 s0
      clear s0
      go_wp2_with fail
      refine (CX2.out _).mono ?_
      rintro e2 w2 ⟨rfl, k2⟩
      have s2 := keep12k k2 s1
      clear s1
      go_wp2_with fail
      refine (CV2.out _ (HT.out.keep s2.2.2.2.2.2.2.2.2.2.2.2.2) (HB.out.keep s2.2.2.2.2.2.2.2.2.2.2.2.2)).mono ?_
      rintro e3 w3 ⟨v, rfl, o3, k3⟩
      have O3 := Lib.hid (o3.base s2.2.2.2.2.2.2.2.2.2.2.2.2.size)
      clear o3
      go_wp2_with fail
      go_ret2
      exact ⟨_, rfl, O3.out, s2.2.2.2.2.2.2.2.2.2.2.2.2.trans k3⟩

end Go.Proofs.YtfohhofpfmbheaaGreatDoor
