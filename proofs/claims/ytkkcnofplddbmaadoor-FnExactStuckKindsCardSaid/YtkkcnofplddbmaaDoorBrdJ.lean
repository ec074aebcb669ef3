/-
  Boards: a kind and a place that are there, the cost to enter a hex, open hexes, unused terrains: the program's functions and the reference's. Nothing that was there is changed. The named variables hold what the program's text lays.
-/
import Derived.Test.YtkkcnofplddbmaaDoorBrdI
import Derived.Test.YtkkcnofplddbmaaDoorMapT
import Derived.Test.YtkkcnofplddbmaaDoorGood
namespace Go.Proofs.YtkkcnofplddbmaaDoor
open Go.RowKit

theorem inB_at {n : Int} {h : Nat} (hh : inB n h = true) : ∃ k : Nat, n = k ∧ k < h := by
  simp only [inB, Bool.and_eq_true, decide_eq_true_iff] at hh
  exact ⟨n.toNat, by omega, by omega⟩
theorem onI_at {W H i : Int} {n : Nat} (hh : onI W H i = true) (hn : (n : Int) = W * H) : ∃ k : Nat, i = k ∧ k < n := by
  obtain ⟨h0, h1⟩ := onI_true hh
  exact ⟨i.toNat, by omega, by omega⟩
theorem brdOk_map {r : Rul} {W H : Int} {lt lr ld : List Int} (h : brdOk r W H lt lr ld = true) : mapOk W H lt lr ld = true := by
  simp only [brdOk, Bool.and_eq_true] at h
  exact h.1.2
theorem brdOk_rul {r : Rul} {W H : Int} {lt lr ld : List Int} (h : brdOk r W H lt lr ld = true) : rulOk r = true := by
  simp only [brdOk, Bool.and_eq_true] at h
  exact h.1.1
theorem mapOk_len {W H : Int} {lt lr ld : List Int} (h : mapOk W H lt lr ld = true) : (lt.length : Int) = W * H := by
  simp only [mapOk, Bool.and_eq_true, decide_eq_true_iff] at h
  exact h.2.2.1

theorem isKind_any (A : Value) (Ak : Option Addr) (nk ck : Nat) (a b c d e k : Int) (w : World) :
    Calls Tryd.prog 103 #[rv A (.slice Ak nk ck) a b c d e, .int .i64 k] w fun e' w' => e' = .returned (.bool (inB k nk)) ∧ Kp w w' := by
  by_cases h1 : 0 ≤ k
  · by_cases h2 : k < nk
    · go_enter Tryd.func103, Tryd.ntmps103
      go_wp2_with fail
      go_ret
      exact ⟨ret_bool (by simp [inB, h1, h2]), (Kp.refl w).alloc _⟩
    · have d2 : decide (k < (nk : Int)) = false := by simpa using h2
      go_enter Tryd.func103, Tryd.ntmps103
      go_wp2_with fail
      go_ret
      exact ⟨ret_bool (by simp [inB]; omega), (Kp.refl w).alloc _⟩
  · have d1 : decide (0 ≤ k) = false := by simpa using h1
    go_enter Tryd.func103, Tryd.ntmps103
    go_wp2_with fail
    go_ret
    exact ⟨ret_bool (by simp [inB]; omega), (Kp.refl w).alloc _⟩

set_option maxRecDepth 100000 in
set_option maxHeartbeats 4000000 in
theorem isKindOn_any (At Ak : Option Addr) (nt nk ct ck : Nat) (l : List Ter) (m : List Knd) (a b c d e W H : Int) (x r y : Value) (lt lr ld : List Int) (k : Int) (w : World) (hs : Spans w) (ht : Tab w) (hB : BrdAt w At Ak nt nk l m x r y lt lr ld) :
    Calls Tryd.prog 69 #[bv (.slice At nt ct) (.slice Ak nk ck) a b c d e W H x r y, .int .i64 k] w fun e' w' => e' = .returned (.bool (brdOk ⟨l, m, a, b, c, d, e⟩ W H lt lr ld && inB k nk)) ∧ Kp w w' := by
  have KA : Kp w (w.alloc (.cells #[.slice At nt ct, .slice Ak nk ck, .int .i64 a, .int .i64 b, .int .i64 c, .int .i64 d, .int .i64 e, .int .i64 W, .int .i64 H, x, r, y] 44)) := (Kp.refl w).alloc _
  have s0 : (w.alloc (.cells #[.slice At nt ct, .slice Ak nk ck, .int .i64 a, .int .i64 b, .int .i64 c, .int .i64 d, .int .i64 e, .int .i64 W, .int .i64 H, x, r, y] 44)).cell? ⟨w.heap.size, 0, none⟩ = some (.slice At nt ct) ∧ (w.alloc (.cells #[.slice At nt ct, .slice Ak nk ck, .int .i64 a, .int .i64 b, .int .i64 c, .int .i64 d, .int .i64 e, .int .i64 W, .int .i64 H, x, r, y] 44)).cell? ⟨w.heap.size, 1, none⟩ = some (.slice Ak nk ck) ∧ (w.alloc (.cells #[.slice At nt ct, .slice Ak nk ck, .int .i64 a, .int .i64 b, .int .i64 c, .int .i64 d, .int .i64 e, .int .i64 W, .int .i64 H, x, r, y] 44)).cell? ⟨w.heap.size, 2, none⟩ = some (.int .i64 a) ∧ (w.alloc (.cells #[.slice At nt ct, .slice Ak nk ck, .int .i64 a, .int .i64 b, .int .i64 c, .int .i64 d, .int .i64 e, .int .i64 W, .int .i64 H, x, r, y] 44)).cell? ⟨w.heap.size, 3, none⟩ = some (.int .i64 b) ∧ (w.alloc (.cells #[.slice At nt ct, .slice Ak nk ck, .int .i64 a, .int .i64 b, .int .i64 c, .int .i64 d, .int .i64 e, .int .i64 W, .int .i64 H, x, r, y] 44)).cell? ⟨w.heap.size, 4, none⟩ = some (.int .i64 c) ∧ (w.alloc (.cells #[.slice At nt ct, .slice Ak nk ck, .int .i64 a, .int .i64 b, .int .i64 c, .int .i64 d, .int .i64 e, .int .i64 W, .int .i64 H, x, r, y] 44)).cell? ⟨w.heap.size, 5, none⟩ = some (.int .i64 d) ∧ (w.alloc (.cells #[.slice At nt ct, .slice Ak nk ck, .int .i64 a, .int .i64 b, .int .i64 c, .int .i64 d, .int .i64 e, .int .i64 W, .int .i64 H, x, r, y] 44)).cell? ⟨w.heap.size, 6, none⟩ = some (.int .i64 e) ∧ (w.alloc (.cells #[.slice At nt ct, .slice Ak nk ck, .int .i64 a, .int .i64 b, .int .i64 c, .int .i64 d, .int .i64 e, .int .i64 W, .int .i64 H, x, r, y] 44)).cell? ⟨w.heap.size, 7, none⟩ = some (.int .i64 W) ∧ (w.alloc (.cells #[.slice At nt ct, .slice Ak nk ck, .int .i64 a, .int .i64 b, .int .i64 c, .int .i64 d, .int .i64 e, .int .i64 W, .int .i64 H, x, r, y] 44)).cell? ⟨w.heap.size, 8, none⟩ = some (.int .i64 H) ∧ (w.alloc (.cells #[.slice At nt ct, .slice Ak nk ck, .int .i64 a, .int .i64 b, .int .i64 c, .int .i64 d, .int .i64 e, .int .i64 W, .int .i64 H, x, r, y] 44)).cell? ⟨w.heap.size, 9, none⟩ = some (x) ∧ (w.alloc (.cells #[.slice At nt ct, .slice Ak nk ck, .int .i64 a, .int .i64 b, .int .i64 c, .int .i64 d, .int .i64 e, .int .i64 W, .int .i64 H, x, r, y] 44)).cell? ⟨w.heap.size, 10, none⟩ = some (r) ∧ (w.alloc (.cells #[.slice At nt ct, .slice Ak nk ck, .int .i64 a, .int .i64 b, .int .i64 c, .int .i64 d, .int .i64 e, .int .i64 W, .int .i64 H, x, r, y] 44)).cell? ⟨w.heap.size, 11, none⟩ = some (y) := ⟨by simp [go_sem], by simp [go_sem], by simp [go_sem], by simp [go_sem], by simp [go_sem], by simp [go_sem], by simp [go_sem], by simp [go_sem], by simp [go_sem], by simp [go_sem], by simp [go_sem], by simp [go_sem]⟩
  have C1 := Lib.hid (isBoard_any At Ak nt nk ct ck l m a b c d e W H x r y lt lr ld _ (hs.keep KA) (ht.keep KA) (hB.keep KA))
  generalize brdOk ⟨l, m, a, b, c, d, e⟩ W H lt lr ld = B at C1 ⊢
  clear hs ht hB
  cases B
  · go_enter Tryd.func69, Tryd.ntmps69
    go_wp2_with fail
    refine C1.out.mono ?_
    rintro e1 w1 ⟨rfl, k1⟩
    go_wp2_with fail
    go_ret
    exact ⟨rfl, KA.trans k1⟩
  · go_enter Tryd.func69, Tryd.ntmps69
    go_wp2_with fail
    refine C1.out.mono ?_
    rintro e1 w1 ⟨rfl, k1⟩
    have s1 := keepb12 k1 s0
    have K1 := KA.trans k1
    clear s0 k1
    go_wp2_with fail
    refine (isKind_any _ _ _ _ _ _ _ _ _ _ _).mono ?_
    rintro e2 w2 ⟨rfl, k2⟩
    go_wp2_with fail
    go_ret
    exact ⟨ret_bool (by simp), K1.trans k2⟩

set_option maxRecDepth 100000 in
set_option maxHeartbeats 4000000 in
theorem enterCostP_any (At Ak : Option Addr) (nt nk ct ck : Nat) (l : List Ter) (m : List Knd) (a b c d e W H : Int) (x r y : Value) (lt lr ld : List Int) (k i : Int) (w : World) (hs : Spans w) (ht : Tab w) (hB : BrdAt w At Ak nt nk l m x r y lt lr ld) :
    Calls Tryd.prog 28 #[bv (.slice At nt ct) (.slice Ak nk ck) a b c d e W H x r y, .int .i64 k, .int .i64 i] w fun e' w' => e' = .returned (ib (brdOk ⟨l, m, a, b, c, d, e⟩ W H lt lr ld && inB k nk && onI W H i) (costB l lt k.toNat i.toNat)) ∧ Kp w w' := by
  have KA : Kp w (w.alloc (.cells #[.slice At nt ct, .slice Ak nk ck, .int .i64 a, .int .i64 b, .int .i64 c, .int .i64 d, .int .i64 e, .int .i64 W, .int .i64 H, x, r, y] 44)) := (Kp.refl w).alloc _
  have s0 : (w.alloc (.cells #[.slice At nt ct, .slice Ak nk ck, .int .i64 a, .int .i64 b, .int .i64 c, .int .i64 d, .int .i64 e, .int .i64 W, .int .i64 H, x, r, y] 44)).cell? ⟨w.heap.size, 0, none⟩ = some (.slice At nt ct) ∧ (w.alloc (.cells #[.slice At nt ct, .slice Ak nk ck, .int .i64 a, .int .i64 b, .int .i64 c, .int .i64 d, .int .i64 e, .int .i64 W, .int .i64 H, x, r, y] 44)).cell? ⟨w.heap.size, 1, none⟩ = some (.slice Ak nk ck) ∧ (w.alloc (.cells #[.slice At nt ct, .slice Ak nk ck, .int .i64 a, .int .i64 b, .int .i64 c, .int .i64 d, .int .i64 e, .int .i64 W, .int .i64 H, x, r, y] 44)).cell? ⟨w.heap.size, 2, none⟩ = some (.int .i64 a) ∧ (w.alloc (.cells #[.slice At nt ct, .slice Ak nk ck, .int .i64 a, .int .i64 b, .int .i64 c, .int .i64 d, .int .i64 e, .int .i64 W, .int .i64 H, x, r, y] 44)).cell? ⟨w.heap.size, 3, none⟩ = some (.int .i64 b) ∧ (w.alloc (.cells #[.slice At nt ct, .slice Ak nk ck, .int .i64 a, .int .i64 b, .int .i64 c, .int .i64 d, .int .i64 e, .int .i64 W, .int .i64 H, x, r, y] 44)).cell? ⟨w.heap.size, 4, none⟩ = some (.int .i64 c) ∧ (w.alloc (.cells #[.slice At nt ct, .slice Ak nk ck, .int .i64 a, .int .i64 b, .int .i64 c, .int .i64 d, .int .i64 e, .int .i64 W, .int .i64 H, x, r, y] 44)).cell? ⟨w.heap.size, 5, none⟩ = some (.int .i64 d) ∧ (w.alloc (.cells #[.slice At nt ct, .slice Ak nk ck, .int .i64 a, .int .i64 b, .int .i64 c, .int .i64 d, .int .i64 e, .int .i64 W, .int .i64 H, x, r, y] 44)).cell? ⟨w.heap.size, 6, none⟩ = some (.int .i64 e) ∧ (w.alloc (.cells #[.slice At nt ct, .slice Ak nk ck, .int .i64 a, .int .i64 b, .int .i64 c, .int .i64 d, .int .i64 e, .int .i64 W, .int .i64 H, x, r, y] 44)).cell? ⟨w.heap.size, 7, none⟩ = some (.int .i64 W) ∧ (w.alloc (.cells #[.slice At nt ct, .slice Ak nk ck, .int .i64 a, .int .i64 b, .int .i64 c, .int .i64 d, .int .i64 e, .int .i64 W, .int .i64 H, x, r, y] 44)).cell? ⟨w.heap.size, 8, none⟩ = some (.int .i64 H) ∧ (w.alloc (.cells #[.slice At nt ct, .slice Ak nk ck, .int .i64 a, .int .i64 b, .int .i64 c, .int .i64 d, .int .i64 e, .int .i64 W, .int .i64 H, x, r, y] 44)).cell? ⟨w.heap.size, 9, none⟩ = some (x) ∧ (w.alloc (.cells #[.slice At nt ct, .slice Ak nk ck, .int .i64 a, .int .i64 b, .int .i64 c, .int .i64 d, .int .i64 e, .int .i64 W, .int .i64 H, x, r, y] 44)).cell? ⟨w.heap.size, 10, none⟩ = some (r) ∧ (w.alloc (.cells #[.slice At nt ct, .slice Ak nk ck, .int .i64 a, .int .i64 b, .int .i64 c, .int .i64 d, .int .i64 e, .int .i64 W, .int .i64 H, x, r, y] 44)).cell? ⟨w.heap.size, 11, none⟩ = some (y) := ⟨by simp [go_sem], by simp [go_sem], by simp [go_sem], by simp [go_sem], by simp [go_sem], by simp [go_sem], by simp [go_sem], by simp [go_sem], by simp [go_sem], by simp [go_sem], by simp [go_sem], by simp [go_sem]⟩
  have HB := Lib.hid hB
  have C1 := Lib.hid (isKindOn_any At Ak nt nk ct ck l m a b c d e W H x r y lt lr ld k _ (hs.keep KA) (ht.keep KA) (hB.keep KA))
  cases hk : brdOk ⟨l, m, a, b, c, d, e⟩ W H lt lr ld && inB k nk
  · rw [hk] at C1
    clear hs ht hB hk
    go_enter Tryd.func28, Tryd.ntmps28
    go_wp2_with fail
    refine C1.out.mono ?_
    rintro e1 w1 ⟨rfl, k1⟩
    go_wp2_with fail
    go_ret2
    exact ⟨rfl, KA.trans k1⟩
  · rw [hk] at C1
    have hk2 : brdOk ⟨l, m, a, b, c, d, e⟩ W H lt lr ld = true ∧ inB k nk = true := by simpa using hk
    obtain ⟨hok, hin⟩ := hk2
    obtain ⟨h1, h2, h3, h4⟩ := mapOk_side (brdOk_map hok)
    have CN := Lib.hid (fun w => isIndex_any W H x r y i w h1 h2 h3 h4)
    cases ho : onI W H i
    · rw [ho] at CN
      clear hs ht hB hk hok hin ho
      go_enter Tryd.func28, Tryd.ntmps28
      go_wp2_with fail
      refine C1.out.mono ?_
      rintro e1 w1 ⟨rfl, k1⟩
      have s1 := keepb12 k1 s0
      have K1 := KA.trans k1
      clear s0 k1
      go_wp2_with fail
      refine (CN.out _).mono ?_
      rintro e2 w2 ⟨rfl, k2⟩
      go_wp2_with fail
      go_ret2
      exact ⟨rfl, K1.trans k2⟩
    · rw [ho] at CN
      obtain ⟨k, rfl, hkn⟩ := inB_at hin
      obtain ⟨i, rfl, hil⟩ := onI_at ho (mapOk_len (brdOk_map hok))
      have CE := Lib.hid (fun w h => enterCost_any At Ak nt nk ct ck l m a b c d e W H x r y lt lr ld k i w h hok (by rw [hB.R.rk.1]; exact hkn) hil)
      simp only [Int.toNat_natCast]
      generalize costB l lt k i = X at CE ⊢
      clear hs ht hB hk hok hin ho
      go_enter Tryd.func28, Tryd.ntmps28
      go_wp2_with fail
      refine C1.out.mono ?_
      rintro e1 w1 ⟨rfl, k1⟩
      have s1 := keepb12 k1 s0
      have K1 := KA.trans k1
      clear s0 k1
      go_wp2_with fail
      refine (CN.out _).mono ?_
      rintro e2 w2 ⟨rfl, k2⟩
      have s2 := keepb12 k2 s1
      have K2 := K1.trans k2
      clear s1 k2 K1
      go_wp2_with fail
      refine (CE.out _ (HB.out.keep K2)).mono ?_
      rintro e3 w3 ⟨rfl, k3⟩
      go_wp2_with fail
      go_ret2
      exact ⟨rfl, K2.trans k3⟩

set_option maxRecDepth 100000 in
set_option maxHeartbeats 4000000 in
theorem isOpen_any (At Ak : Option Addr) (nt nk ct ck : Nat) (l : List Ter) (m : List Knd) (a b c d e W H : Int) (x r y : Value) (lt lr ld : List Int) (k i : Nat) (w : World) (hB : BrdAt w At Ak nt nk l m x r y lt lr ld) (hok : brdOk ⟨l, m, a, b, c, d, e⟩ W H lt lr ld = true) (hk : k < m.length) (hi : i < lt.length) :
    Calls Tryd.prog 104 #[bv (.slice At nt ct) (.slice Ak nk ck) a b c d e W H x r y, .int .i64 (k : Int), .int .i64 (i : Int)] w fun e' w' => e' = .returned (.bool (opnB l lt k i)) ∧ Kp w w' := by
  have KA : Kp w (w.alloc (.cells #[.slice At nt ct, .slice Ak nk ck, .int .i64 a, .int .i64 b, .int .i64 c, .int .i64 d, .int .i64 e, .int .i64 W, .int .i64 H, x, r, y] 44)) := (Kp.refl w).alloc _
  have C1 := Lib.hid (enterCost_any At Ak nt nk ct ck l m a b c d e W H x r y lt lr ld k i _ (hB.keep KA) hok hk hi)
  obtain ⟨_, _, z, _, _, _, _, _, h6, h7, _⟩ := brd_hex hok hk hi
  have e : opnB l lt k i = (costB l lt k i != 0) := by
    unfold opnB
    rw [h6, Bool.eq_iff_iff]
    simp
    omega
  rw [e]
  generalize costB l lt k i = X at C1 ⊢
  clear hB hok hk hi h6 h7 e
  go_enter Tryd.func104, Tryd.ntmps104
  go_wp2_with fail
  refine C1.out.mono ?_
  rintro e1 w1 ⟨rfl, k1⟩
  go_wp2_with fail
  go_ret
  exact ⟨rfl, KA.trans k1⟩

set_option maxRecDepth 100000 in
set_option maxHeartbeats 4000000 in
theorem openHexes_any (At Ak : Option Addr) (nt nk ct ck : Nat) (l : List Ter) (m : List Knd) (a b c d e W H : Int) (x r y : Value) (lt lr ld : List Int) (k : Nat) (w : World) (hB : BrdAt w At Ak nt nk l m x r y lt lr ld) (hok : brdOk ⟨l, m, a, b, c, d, e⟩ W H lt lr ld = true) (hk : k < m.length) :
    Calls Tryd.prog 73 #[bv (.slice At nt ct) (.slice Ak nk ck) a b c d e W H x r y, .int .i64 (k : Int)] w fun e' w' => ∃ v, e' = .returned v ∧ OwnI w' (w.heap.size + 1) v (opnL l lt k lt.length) ∧ Kp w w' := by
  have KA : Kp w (w.alloc (.cells #[.slice At nt ct, .slice Ak nk ck, .int .i64 a, .int .i64 b, .int .i64 c, .int .i64 d, .int .i64 e, .int .i64 W, .int .i64 H, x, r, y] 44)) := (Kp.refl w).alloc _
  have s0 : (w.alloc (.cells #[.slice At nt ct, .slice Ak nk ck, .int .i64 a, .int .i64 b, .int .i64 c, .int .i64 d, .int .i64 e, .int .i64 W, .int .i64 H, x, r, y] 44)).cell? ⟨w.heap.size, 0, none⟩ = some (.slice At nt ct) ∧ (w.alloc (.cells #[.slice At nt ct, .slice Ak nk ck, .int .i64 a, .int .i64 b, .int .i64 c, .int .i64 d, .int .i64 e, .int .i64 W, .int .i64 H, x, r, y] 44)).cell? ⟨w.heap.size, 1, none⟩ = some (.slice Ak nk ck) ∧ (w.alloc (.cells #[.slice At nt ct, .slice Ak nk ck, .int .i64 a, .int .i64 b, .int .i64 c, .int .i64 d, .int .i64 e, .int .i64 W, .int .i64 H, x, r, y] 44)).cell? ⟨w.heap.size, 2, none⟩ = some (.int .i64 a) ∧ (w.alloc (.cells #[.slice At nt ct, .slice Ak nk ck, .int .i64 a, .int .i64 b, .int .i64 c, .int .i64 d, .int .i64 e, .int .i64 W, .int .i64 H, x, r, y] 44)).cell? ⟨w.heap.size, 3, none⟩ = some (.int .i64 b) ∧ (w.alloc (.cells #[.slice At nt ct, .slice Ak nk ck, .int .i64 a, .int .i64 b, .int .i64 c, .int .i64 d, .int .i64 e, .int .i64 W, .int .i64 H, x, r, y] 44)).cell? ⟨w.heap.size, 4, none⟩ = some (.int .i64 c) ∧ (w.alloc (.cells #[.slice At nt ct, .slice Ak nk ck, .int .i64 a, .int .i64 b, .int .i64 c, .int .i64 d, .int .i64 e, .int .i64 W, .int .i64 H, x, r, y] 44)).cell? ⟨w.heap.size, 5, none⟩ = some (.int .i64 d) ∧ (w.alloc (.cells #[.slice At nt ct, .slice Ak nk ck, .int .i64 a, .int .i64 b, .int .i64 c, .int .i64 d, .int .i64 e, .int .i64 W, .int .i64 H, x, r, y] 44)).cell? ⟨w.heap.size, 6, none⟩ = some (.int .i64 e) ∧ (w.alloc (.cells #[.slice At nt ct, .slice Ak nk ck, .int .i64 a, .int .i64 b, .int .i64 c, .int .i64 d, .int .i64 e, .int .i64 W, .int .i64 H, x, r, y] 44)).cell? ⟨w.heap.size, 7, none⟩ = some (.int .i64 W) ∧ (w.alloc (.cells #[.slice At nt ct, .slice Ak nk ck, .int .i64 a, .int .i64 b, .int .i64 c, .int .i64 d, .int .i64 e, .int .i64 W, .int .i64 H, x, r, y] 44)).cell? ⟨w.heap.size, 8, none⟩ = some (.int .i64 H) ∧ (w.alloc (.cells #[.slice At nt ct, .slice Ak nk ck, .int .i64 a, .int .i64 b, .int .i64 c, .int .i64 d, .int .i64 e, .int .i64 W, .int .i64 H, x, r, y] 44)).cell? ⟨w.heap.size, 9, none⟩ = some (x) ∧ (w.alloc (.cells #[.slice At nt ct, .slice Ak nk ck, .int .i64 a, .int .i64 b, .int .i64 c, .int .i64 d, .int .i64 e, .int .i64 W, .int .i64 H, x, r, y] 44)).cell? ⟨w.heap.size, 10, none⟩ = some (r) ∧ (w.alloc (.cells #[.slice At nt ct, .slice Ak nk ck, .int .i64 a, .int .i64 b, .int .i64 c, .int .i64 d, .int .i64 e, .int .i64 W, .int .i64 H, x, r, y] 44)).cell? ⟨w.heap.size, 11, none⟩ = some (y) ∧ Kp w (w.alloc (.cells #[.slice At nt ct, .slice Ak nk ck, .int .i64 a, .int .i64 b, .int .i64 c, .int .i64 d, .int .i64 e, .int .i64 W, .int .i64 H, x, r, y] 44)) := ⟨by simp [go_sem], by simp [go_sem], by simp [go_sem], by simp [go_sem], by simp [go_sem], by simp [go_sem], by simp [go_sem], by simp [go_sem], by simp [go_sem], by simp [go_sem], by simp [go_sem], by simp [go_sem], KA⟩
  have HB := Lib.hid hB
  obtain ⟨h1, h2, h3, h4⟩ := mapOk_side (brdOk_map hok)
  have hA := area_bd h1 h2 h3 h4
  have hlen := mapOk_len (brdOk_map hok)
  obtain ⟨n, hn⟩ : ∃ n, lt.length = n := ⟨_, rfl⟩
  have hn1 : n ≤ 100 := by omega
  have CC : Hid (∀ w, Calls Tryd.prog 86 #[mp W H x r y] w fun e w' => e = .returned (.int .i64 (n : Int)) ∧ Kp w w') := Lib.hid fun w => by
    have := countHexes_any W H x r y w h1 h2 h3 h4
    rw [← hlen, hn] at this
    exact this
  rw [hn]
  have HF : Hid (∀ i, i < n → Hid (∀ w, BrdAt w At Ak nt nk l m x r y lt lr ld → Calls Tryd.prog 104 #[bv (.slice At nt ct) (.slice Ak nk ck) a b c d e W H x r y, .int .i64 (k : Int), .int .i64 (i : Int)] w fun e' w' => e' = .returned (.bool (opnB l lt k i)) ∧ Kp w w')) := Lib.hid fun i hi => Lib.hid fun w h => isOpen_any At Ak nt nk ct ck l m a b c d e W H x r y lt lr ld k i w h hok hk (by rw [hn]; exact hi)
  have HP : Hid (∀ i, opnB l lt k i = decide (0 < costB l lt k i)) := Lib.hid fun i => rfl
  have e0 : opnL l lt k n = filN (opnB l lt k) n := rfl
  rw [e0]
  generalize hF : opnB l lt k = F at HF HP ⊢
  generalize hG : costB l lt k = G at HF HP
  obtain ⟨j0, hj0, hz0, hs0, hb0⟩ := info_parts infoInt
  clear hB hok hk hlen hn hA KA hF hG
  go_enter Tryd.func73, Tryd.ntmps73
  go_wp2_with fail
  refine (CC.out _).mono ?_
  rintro e0 w0 ⟨rfl, k0⟩
  replace s0 : w0.cell? ⟨w.heap.size, 0, none⟩ = some (.slice At nt ct) ∧ w0.cell? ⟨w.heap.size, 1, none⟩ = some (.slice Ak nk ck) ∧ w0.cell? ⟨w.heap.size, 2, none⟩ = some (.int .i64 a) ∧ w0.cell? ⟨w.heap.size, 3, none⟩ = some (.int .i64 b) ∧ w0.cell? ⟨w.heap.size, 4, none⟩ = some (.int .i64 c) ∧ w0.cell? ⟨w.heap.size, 5, none⟩ = some (.int .i64 d) ∧ w0.cell? ⟨w.heap.size, 6, none⟩ = some (.int .i64 e) ∧ w0.cell? ⟨w.heap.size, 7, none⟩ = some (.int .i64 W) ∧ w0.cell? ⟨w.heap.size, 8, none⟩ = some (.int .i64 H) ∧ w0.cell? ⟨w.heap.size, 9, none⟩ = some (x) ∧ w0.cell? ⟨w.heap.size, 10, none⟩ = some (r) ∧ w0.cell? ⟨w.heap.size, 11, none⟩ = some (y) ∧ Kp w w0 := ⟨k0.cell s0.1, k0.cell s0.2.1, k0.cell s0.2.2.1, k0.cell s0.2.2.2.1, k0.cell s0.2.2.2.2.1, k0.cell s0.2.2.2.2.2.1, k0.cell s0.2.2.2.2.2.2.1, k0.cell s0.2.2.2.2.2.2.2.1, k0.cell s0.2.2.2.2.2.2.2.2.1, k0.cell s0.2.2.2.2.2.2.2.2.2.1, k0.cell s0.2.2.2.2.2.2.2.2.2.2.1, k0.cell s0.2.2.2.2.2.2.2.2.2.2.2.1, s0.2.2.2.2.2.2.2.2.2.2.2.2.trans k0⟩
  clear k0 CC
  go_wp2_with fail
  go_loopw [5, 6, 10] (fun v _ sq wx => ∃ q : Nat, q ≤ n ∧ sq = .int .i64 q ∧ OwnI wx (w.heap.size + 1) v (filN F q) ∧ wx.cell? ⟨w.heap.size, 0, none⟩ = some (.slice At nt ct) ∧ wx.cell? ⟨w.heap.size, 1, none⟩ = some (.slice Ak nk ck) ∧ wx.cell? ⟨w.heap.size, 2, none⟩ = some (.int .i64 a) ∧ wx.cell? ⟨w.heap.size, 3, none⟩ = some (.int .i64 b) ∧ wx.cell? ⟨w.heap.size, 4, none⟩ = some (.int .i64 c) ∧ wx.cell? ⟨w.heap.size, 5, none⟩ = some (.int .i64 d) ∧ wx.cell? ⟨w.heap.size, 6, none⟩ = some (.int .i64 e) ∧ wx.cell? ⟨w.heap.size, 7, none⟩ = some (.int .i64 W) ∧ wx.cell? ⟨w.heap.size, 8, none⟩ = some (.int .i64 H) ∧ wx.cell? ⟨w.heap.size, 9, none⟩ = some (x) ∧ wx.cell? ⟨w.heap.size, 10, none⟩ = some (r) ∧ wx.cell? ⟨w.heap.size, 11, none⟩ = some (y) ∧ Kp w wx) (fun _ _ sq _ => n - (intOf sq).toNat)
  case atStart => exact ⟨0, by omega, rfl, OwnI.nil _ _, s0⟩
  case round =>
    clear s0
    obtain ⟨q, hqn, rfl, hoR, sr⟩ := hrel
    by_cases hlt : q < n
    · have hlt' : (q : Int) < n := by omega
      have HO := Lib.hid hoR
      have kr : Kp w wr := sr.2.2.2.2.2.2.2.2.2.2.2.2
      clear hoR
      cases hf : F q
      · have HS : Hid (filN F (q + 1) = filN F q) := Lib.hid (filN_no hf)
        go_wp2_with fail
        refine ((HF.out q hlt).out _ (HB.out.keep kr)).mono ?_
        rintro e1 w1 ⟨rfl, k1⟩
        rw [hf]
        have HO1 := Lib.hid (HO.out.keep k1)
        have s1 : w1.cell? ⟨w.heap.size, 0, none⟩ = some (.slice At nt ct) ∧ w1.cell? ⟨w.heap.size, 1, none⟩ = some (.slice Ak nk ck) ∧ w1.cell? ⟨w.heap.size, 2, none⟩ = some (.int .i64 a) ∧ w1.cell? ⟨w.heap.size, 3, none⟩ = some (.int .i64 b) ∧ w1.cell? ⟨w.heap.size, 4, none⟩ = some (.int .i64 c) ∧ w1.cell? ⟨w.heap.size, 5, none⟩ = some (.int .i64 d) ∧ w1.cell? ⟨w.heap.size, 6, none⟩ = some (.int .i64 e) ∧ w1.cell? ⟨w.heap.size, 7, none⟩ = some (.int .i64 W) ∧ w1.cell? ⟨w.heap.size, 8, none⟩ = some (.int .i64 H) ∧ w1.cell? ⟨w.heap.size, 9, none⟩ = some (x) ∧ w1.cell? ⟨w.heap.size, 10, none⟩ = some (r) ∧ w1.cell? ⟨w.heap.size, 11, none⟩ = some (y) ∧ Kp w w1 := ⟨k1.cell sr.1, k1.cell sr.2.1, k1.cell sr.2.2.1, k1.cell sr.2.2.2.1, k1.cell sr.2.2.2.2.1, k1.cell sr.2.2.2.2.2.1, k1.cell sr.2.2.2.2.2.2.1, k1.cell sr.2.2.2.2.2.2.2.1, k1.cell sr.2.2.2.2.2.2.2.2.1, k1.cell sr.2.2.2.2.2.2.2.2.2.1, k1.cell sr.2.2.2.2.2.2.2.2.2.2.1, k1.cell sr.2.2.2.2.2.2.2.2.2.2.2.1, kr.trans k1⟩
        clear sr k1 HO kr
        go_wp2_with fail
        go_roundw
        case rel => exact ⟨q + 1, by omega, by go_num, by rw [HS.out]; exact HO1.out, s1⟩
        case measure => simp [intOf]; omega
      · have HS : Hid (filN F (q + 1) = filN F q ++ [(q : Int)]) := Lib.hid (filN_yes hf)
        have hln := Lib.hid (filN_len F q)
        go_wp2_with fail
        refine ((HF.out q hlt).out _ (HB.out.keep kr)).mono ?_
        rintro e1 w1 ⟨rfl, k1⟩
        rw [hf]
        have HO1 := Lib.hid (HO.out.keep k1)
        have s1 : w1.cell? ⟨w.heap.size, 0, none⟩ = some (.slice At nt ct) ∧ w1.cell? ⟨w.heap.size, 1, none⟩ = some (.slice Ak nk ck) ∧ w1.cell? ⟨w.heap.size, 2, none⟩ = some (.int .i64 a) ∧ w1.cell? ⟨w.heap.size, 3, none⟩ = some (.int .i64 b) ∧ w1.cell? ⟨w.heap.size, 4, none⟩ = some (.int .i64 c) ∧ w1.cell? ⟨w.heap.size, 5, none⟩ = some (.int .i64 d) ∧ w1.cell? ⟨w.heap.size, 6, none⟩ = some (.int .i64 e) ∧ w1.cell? ⟨w.heap.size, 7, none⟩ = some (.int .i64 W) ∧ w1.cell? ⟨w.heap.size, 8, none⟩ = some (.int .i64 H) ∧ w1.cell? ⟨w.heap.size, 9, none⟩ = some (x) ∧ w1.cell? ⟨w.heap.size, 10, none⟩ = some (r) ∧ w1.cell? ⟨w.heap.size, 11, none⟩ = some (y) ∧ Kp w w1 := ⟨k1.cell sr.1, k1.cell sr.2.1, k1.cell sr.2.2.1, k1.cell sr.2.2.2.1, k1.cell sr.2.2.2.2.1, k1.cell sr.2.2.2.2.2.1, k1.cell sr.2.2.2.2.2.2.1, k1.cell sr.2.2.2.2.2.2.2.1, k1.cell sr.2.2.2.2.2.2.2.2.1, k1.cell sr.2.2.2.2.2.2.2.2.2.1, k1.cell sr.2.2.2.2.2.2.2.2.2.2.1, k1.cell sr.2.2.2.2.2.2.2.2.2.2.2.1, kr.trans k1⟩
        have n0 := Lib.hid (HO1.out.not (g := w.heap.size) (by omega))
        have n1 := Lib.hid (HO1.out.not (g := w.heap.size) (by omega))
        have n2 := Lib.hid (HO1.out.not (g := w.heap.size) (by omega))
        have n3 := Lib.hid (HO1.out.not (g := w.heap.size) (by omega))
        have n4 := Lib.hid (HO1.out.not (g := w.heap.size) (by omega))
        have n5 := Lib.hid (HO1.out.not (g := w.heap.size) (by omega))
        have n6 := Lib.hid (HO1.out.not (g := w.heap.size) (by omega))
        have n7 := Lib.hid (HO1.out.not (g := w.heap.size) (by omega))
        have n8 := Lib.hid (HO1.out.not (g := w.heap.size) (by omega))
        have n9 := Lib.hid (HO1.out.not (g := w.heap.size) (by omega))
        have n10 := Lib.hid (HO1.out.not (g := w.heap.size) (by omega))
        have n11 := Lib.hid (HO1.out.not (g := w.heap.size) (by omega))
        have hbw : w.heap.size ≤ w1.heap.size := s1.2.2.2.2.2.2.2.2.2.2.2.2.size
        clear sr k1 HO kr
        go_wp2_with (at_builtin; refine wpList_append_own_at _ rfl (.tmp 17) (.tmp 19) 35 rfl (w.heap.size + 1) 3 j0 (.int .i64 0) 1 8 Tryd.underlying35 hj0 hz0 hs0 hb0 rfl (by decide) _ (filN F q).length (cellsI (filN F q)) rfl (World.ownsRow.alloc HO1.out _) ⟨w1.heap.size, 0, none⟩ 1 1 [.int .i64 q] rfl rfl (one_cell _ _ _) (by simp [Value.oneCell']) (by have := hln.out; simp only [maxLen]; omega) (by have := hln.out; omega) (by simp; omega) ?_; intro v' w3 hown2 hgrow2 hnil2 hat2; clear hnil2 hat2; have s5 : w3.cell? ⟨w.heap.size, 0, none⟩ = some (.slice At nt ct) ∧ w3.cell? ⟨w.heap.size, 1, none⟩ = some (.slice Ak nk ck) ∧ w3.cell? ⟨w.heap.size, 2, none⟩ = some (.int .i64 a) ∧ w3.cell? ⟨w.heap.size, 3, none⟩ = some (.int .i64 b) ∧ w3.cell? ⟨w.heap.size, 4, none⟩ = some (.int .i64 c) ∧ w3.cell? ⟨w.heap.size, 5, none⟩ = some (.int .i64 d) ∧ w3.cell? ⟨w.heap.size, 6, none⟩ = some (.int .i64 e) ∧ w3.cell? ⟨w.heap.size, 7, none⟩ = some (.int .i64 W) ∧ w3.cell? ⟨w.heap.size, 8, none⟩ = some (.int .i64 H) ∧ w3.cell? ⟨w.heap.size, 9, none⟩ = some (x) ∧ w3.cell? ⟨w.heap.size, 10, none⟩ = some (r) ∧ w3.cell? ⟨w.heap.size, 11, none⟩ = some (y) ∧ Kp w w3 := ⟨hgrow2.cell (((Kp.refl w1).alloc (.cells #[.int .i64 (q : Int)] 3)).cell s1.1) (fun e => n0.out e.symm), hgrow2.cell (((Kp.refl w1).alloc (.cells #[.int .i64 (q : Int)] 3)).cell s1.2.1) (fun e => n1.out e.symm), hgrow2.cell (((Kp.refl w1).alloc (.cells #[.int .i64 (q : Int)] 3)).cell s1.2.2.1) (fun e => n2.out e.symm), hgrow2.cell (((Kp.refl w1).alloc (.cells #[.int .i64 (q : Int)] 3)).cell s1.2.2.2.1) (fun e => n3.out e.symm), hgrow2.cell (((Kp.refl w1).alloc (.cells #[.int .i64 (q : Int)] 3)).cell s1.2.2.2.2.1) (fun e => n4.out e.symm), hgrow2.cell (((Kp.refl w1).alloc (.cells #[.int .i64 (q : Int)] 3)).cell s1.2.2.2.2.2.1) (fun e => n5.out e.symm), hgrow2.cell (((Kp.refl w1).alloc (.cells #[.int .i64 (q : Int)] 3)).cell s1.2.2.2.2.2.2.1) (fun e => n6.out e.symm), hgrow2.cell (((Kp.refl w1).alloc (.cells #[.int .i64 (q : Int)] 3)).cell s1.2.2.2.2.2.2.2.1) (fun e => n7.out e.symm), hgrow2.cell (((Kp.refl w1).alloc (.cells #[.int .i64 (q : Int)] 3)).cell s1.2.2.2.2.2.2.2.2.1) (fun e => n8.out e.symm), hgrow2.cell (((Kp.refl w1).alloc (.cells #[.int .i64 (q : Int)] 3)).cell s1.2.2.2.2.2.2.2.2.2.1) (fun e => n9.out e.symm), hgrow2.cell (((Kp.refl w1).alloc (.cells #[.int .i64 (q : Int)] 3)).cell s1.2.2.2.2.2.2.2.2.2.2.1) (fun e => n10.out e.symm), hgrow2.cell (((Kp.refl w1).alloc (.cells #[.int .i64 (q : Int)] 3)).cell s1.2.2.2.2.2.2.2.2.2.2.2.1) (fun e => n11.out e.symm), (s1.2.2.2.2.2.2.2.2.2.2.2.2.alloc _).grown hgrow2 (fun k e => by have := (World.ownsRow.lt HO1.out k e).1; omega)⟩; have O3 := Lib.hid (OwnI.snoc (x := q) hown2); clear hown2 hgrow2)
        go_roundw
        case rel => exact ⟨q + 1, by omega, by go_num, by rw [HS.out]; exact O3.out, s5⟩
        case measure => simp [intOf]; omega
    · obtain rfl : q = n := by omega
      go_wp2_with fail
      go_ret
      exact ⟨_, rfl, hoR, sr.2.2.2.2.2.2.2.2.2.2.2.2⟩

set_option maxRecDepth 100000 in
set_option maxHeartbeats 4000000 in
theorem bTerrain_any (At Ak : Option Addr) (nt nk ct ck : Nat) (l : List Ter) (m : List Knd) (a b c d e W H : Int) (x r y : Value) (lt lr ld : List Int) (k i : Nat) (w : World) (hB : BrdAt w At Ak nt nk l m x r y lt lr ld) (hok : brdOk ⟨l, m, a, b, c, d, e⟩ W H lt lr ld = true) (hk : k < m.length) (hi : i < lt.length) :
    Calls Tryd.prog 102 #[bv (.slice At nt ct) (.slice Ak nk ck) a b c d e W H x r y, .int .i64 (i : Int)] w fun e' w' => ∃ (nm : ByteArray) (g o n c : Nat) (s h : Int) (b : Bool), e' = .returned (tv nm (some ⟨g, o, none⟩) n c s h b) ∧ k < n ∧ w'.cell? ⟨g, o + k, none⟩ = some (.int .i64 (costB l lt k i)) ∧ Kp w w' := by
  obtain ⟨T, t, z, h1, h2, h3, h4, h5, h6, _, _⟩ := brd_hex hok hk hi
  rw [h6]
  obtain ⟨Bx, bx, rfl, hrt⟩ := hB.L.rt
  obtain ⟨gx, ox, rfl, hcx⟩ := hrt (by omega)
  have q1 := hcx i _ h1
  obtain ⟨hl, hrT⟩ := hB.R.rt
  obtain ⟨gt, ot, rfl, hct⟩ := hrT (by omega)
  obtain ⟨Ac, cc, ⟨u0, q2, u2, u3, u4⟩, hrc⟩ := hct T t h3
  obtain ⟨Ac', cc', ec, hrc'⟩ := hrc
  simp only [Value.slice.injEq] at ec
  obtain ⟨rfl, _, rfl⟩ := ec
  obtain ⟨gc, oc, rfl, hcc⟩ := hrc' (by omega)
  have q3 := hcc k _ h5
  have hbt := hB.L.bt
  have hbc := (hB.R.bc t (List.mem_of_getElem? h3)).1
  have hbn := hB.R.bt
  obtain ⟨nm, cs, sh, hg, bl⟩ := t
  simp only at u0 q2 u2 u3 u4 h4 hbc
  generalize cs.length = nc at q2 h4 hbc
  generalize lt.length = mt at hi hbt
  have f1 : T < nt := by omega
  have f2 : k < nc := by omega
  clear hB hok hrt hcx hrT hct hrc' hcc h1 h3 h5 h6 hl h2 h4 hk
  go_enter Tryd.func102, Tryd.ntmps102
  go_wp2_with fail
  have KA : Kp w ((w.alloc (.cells #[.slice (some ⟨gt, ot, none⟩) nt ct, .slice Ak nk ck, .int .i64 a, .int .i64 b, .int .i64 c, .int .i64 d, .int .i64 e, .int .i64 W, .int .i64 H, .slice (some ⟨gx, ox, none⟩) mt bx, r, y] 44)).alloc (.cells #[.string ByteArray.empty, .slice none 0 0, .int .i64 0, .int .i64 0, .bool false] 79)) := ((Kp.refl w).alloc _).alloc _
  have s0 : ((w.alloc (.cells #[.slice (some ⟨gt, ot, none⟩) nt ct, .slice Ak nk ck, .int .i64 a, .int .i64 b, .int .i64 c, .int .i64 d, .int .i64 e, .int .i64 W, .int .i64 H, .slice (some ⟨gx, ox, none⟩) mt bx, r, y] 44)).alloc (.cells #[.string ByteArray.empty, .slice none 0 0, .int .i64 0, .int .i64 0, .bool false] 79)).drew.cell? ⟨w.heap.size, 0, none⟩ = some (.slice (some ⟨gt, ot, none⟩) nt ct) ∧ ((w.alloc (.cells #[.slice (some ⟨gt, ot, none⟩) nt ct, .slice Ak nk ck, .int .i64 a, .int .i64 b, .int .i64 c, .int .i64 d, .int .i64 e, .int .i64 W, .int .i64 H, .slice (some ⟨gx, ox, none⟩) mt bx, r, y] 44)).alloc (.cells #[.string ByteArray.empty, .slice none 0 0, .int .i64 0, .int .i64 0, .bool false] 79)).drew.cell? ⟨w.heap.size, 9, none⟩ = some (.slice (some ⟨gx, ox, none⟩) mt bx) ∧ ((w.alloc (.cells #[.slice (some ⟨gt, ot, none⟩) nt ct, .slice Ak nk ck, .int .i64 a, .int .i64 b, .int .i64 c, .int .i64 d, .int .i64 e, .int .i64 W, .int .i64 H, .slice (some ⟨gx, ox, none⟩) mt bx, r, y] 44)).alloc (.cells #[.string ByteArray.empty, .slice none 0 0, .int .i64 0, .int .i64 0, .bool false] 79)).drew.cell? ⟨gx, ox + i, none⟩ = some (.int .i64 (T : Int)) ∧ ((w.alloc (.cells #[.slice (some ⟨gt, ot, none⟩) nt ct, .slice Ak nk ck, .int .i64 a, .int .i64 b, .int .i64 c, .int .i64 d, .int .i64 e, .int .i64 W, .int .i64 H, .slice (some ⟨gx, ox, none⟩) mt bx, r, y] 44)).alloc (.cells #[.string ByteArray.empty, .slice none 0 0, .int .i64 0, .int .i64 0, .bool false] 79)).drew.cell? ⟨gt, ot + T * 5, none⟩ = some (.string nm) ∧ ((w.alloc (.cells #[.slice (some ⟨gt, ot, none⟩) nt ct, .slice Ak nk ck, .int .i64 a, .int .i64 b, .int .i64 c, .int .i64 d, .int .i64 e, .int .i64 W, .int .i64 H, .slice (some ⟨gx, ox, none⟩) mt bx, r, y] 44)).alloc (.cells #[.string ByteArray.empty, .slice none 0 0, .int .i64 0, .int .i64 0, .bool false] 79)).drew.cell? ⟨gt, ot + T * 5 + 1, none⟩ = some (.slice (some ⟨gc, oc, none⟩) nc cc) ∧ ((w.alloc (.cells #[.slice (some ⟨gt, ot, none⟩) nt ct, .slice Ak nk ck, .int .i64 a, .int .i64 b, .int .i64 c, .int .i64 d, .int .i64 e, .int .i64 W, .int .i64 H, .slice (some ⟨gx, ox, none⟩) mt bx, r, y] 44)).alloc (.cells #[.string ByteArray.empty, .slice none 0 0, .int .i64 0, .int .i64 0, .bool false] 79)).drew.cell? ⟨gt, ot + T * 5 + 2, none⟩ = some (.int .i64 sh) ∧ ((w.alloc (.cells #[.slice (some ⟨gt, ot, none⟩) nt ct, .slice Ak nk ck, .int .i64 a, .int .i64 b, .int .i64 c, .int .i64 d, .int .i64 e, .int .i64 W, .int .i64 H, .slice (some ⟨gx, ox, none⟩) mt bx, r, y] 44)).alloc (.cells #[.string ByteArray.empty, .slice none 0 0, .int .i64 0, .int .i64 0, .bool false] 79)).drew.cell? ⟨gt, ot + T * 5 + 3, none⟩ = some (.int .i64 hg) ∧ ((w.alloc (.cells #[.slice (some ⟨gt, ot, none⟩) nt ct, .slice Ak nk ck, .int .i64 a, .int .i64 b, .int .i64 c, .int .i64 d, .int .i64 e, .int .i64 W, .int .i64 H, .slice (some ⟨gx, ox, none⟩) mt bx, r, y] 44)).alloc (.cells #[.string ByteArray.empty, .slice none 0 0, .int .i64 0, .int .i64 0, .bool false] 79)).drew.cell? ⟨gt, ot + T * 5 + 4, none⟩ = some (.bool bl) ∧ ((w.alloc (.cells #[.slice (some ⟨gt, ot, none⟩) nt ct, .slice Ak nk ck, .int .i64 a, .int .i64 b, .int .i64 c, .int .i64 d, .int .i64 e, .int .i64 W, .int .i64 H, .slice (some ⟨gx, ox, none⟩) mt bx, r, y] 44)).alloc (.cells #[.string ByteArray.empty, .slice none 0 0, .int .i64 0, .int .i64 0, .bool false] 79)).drew.cell? ⟨gc, oc + k, none⟩ = some (.int .i64 z) := ⟨by simp [go_sem], by simp [go_sem], KA.cell q1, KA.cell u0, KA.cell q2, KA.cell u2, KA.cell u3, KA.cell u4, KA.cell q3⟩
  have KB : Kp w ((w.alloc (.cells #[.slice (some ⟨gt, ot, none⟩) nt ct, .slice Ak nk ck, .int .i64 a, .int .i64 b, .int .i64 c, .int .i64 d, .int .i64 e, .int .i64 W, .int .i64 H, .slice (some ⟨gx, ox, none⟩) mt bx, r, y] 44)).alloc (.cells #[.string nm, .slice (some ⟨gc, oc, none⟩) nc cc, .int .i64 sh, .int .i64 hg, .bool bl] 79)) := ((Kp.refl w).alloc _).alloc _
  have s1 : ((w.alloc (.cells #[.slice (some ⟨gt, ot, none⟩) nt ct, .slice Ak nk ck, .int .i64 a, .int .i64 b, .int .i64 c, .int .i64 d, .int .i64 e, .int .i64 W, .int .i64 H, .slice (some ⟨gx, ox, none⟩) mt bx, r, y] 44)).alloc (.cells #[.string nm, .slice (some ⟨gc, oc, none⟩) nc cc, .int .i64 sh, .int .i64 hg, .bool bl] 79)).drew.cell? ⟨w.heap.size, 0, none⟩ = some (.slice (some ⟨gt, ot, none⟩) nt ct) ∧ ((w.alloc (.cells #[.slice (some ⟨gt, ot, none⟩) nt ct, .slice Ak nk ck, .int .i64 a, .int .i64 b, .int .i64 c, .int .i64 d, .int .i64 e, .int .i64 W, .int .i64 H, .slice (some ⟨gx, ox, none⟩) mt bx, r, y] 44)).alloc (.cells #[.string nm, .slice (some ⟨gc, oc, none⟩) nc cc, .int .i64 sh, .int .i64 hg, .bool bl] 79)).drew.cell? ⟨w.heap.size, 9, none⟩ = some (.slice (some ⟨gx, ox, none⟩) mt bx) ∧ ((w.alloc (.cells #[.slice (some ⟨gt, ot, none⟩) nt ct, .slice Ak nk ck, .int .i64 a, .int .i64 b, .int .i64 c, .int .i64 d, .int .i64 e, .int .i64 W, .int .i64 H, .slice (some ⟨gx, ox, none⟩) mt bx, r, y] 44)).alloc (.cells #[.string nm, .slice (some ⟨gc, oc, none⟩) nc cc, .int .i64 sh, .int .i64 hg, .bool bl] 79)).drew.cell? ⟨gx, ox + i, none⟩ = some (.int .i64 (T : Int)) ∧ ((w.alloc (.cells #[.slice (some ⟨gt, ot, none⟩) nt ct, .slice Ak nk ck, .int .i64 a, .int .i64 b, .int .i64 c, .int .i64 d, .int .i64 e, .int .i64 W, .int .i64 H, .slice (some ⟨gx, ox, none⟩) mt bx, r, y] 44)).alloc (.cells #[.string nm, .slice (some ⟨gc, oc, none⟩) nc cc, .int .i64 sh, .int .i64 hg, .bool bl] 79)).drew.cell? ⟨gt, ot + T * 5, none⟩ = some (.string nm) ∧ ((w.alloc (.cells #[.slice (some ⟨gt, ot, none⟩) nt ct, .slice Ak nk ck, .int .i64 a, .int .i64 b, .int .i64 c, .int .i64 d, .int .i64 e, .int .i64 W, .int .i64 H, .slice (some ⟨gx, ox, none⟩) mt bx, r, y] 44)).alloc (.cells #[.string nm, .slice (some ⟨gc, oc, none⟩) nc cc, .int .i64 sh, .int .i64 hg, .bool bl] 79)).drew.cell? ⟨gt, ot + T * 5 + 1, none⟩ = some (.slice (some ⟨gc, oc, none⟩) nc cc) ∧ ((w.alloc (.cells #[.slice (some ⟨gt, ot, none⟩) nt ct, .slice Ak nk ck, .int .i64 a, .int .i64 b, .int .i64 c, .int .i64 d, .int .i64 e, .int .i64 W, .int .i64 H, .slice (some ⟨gx, ox, none⟩) mt bx, r, y] 44)).alloc (.cells #[.string nm, .slice (some ⟨gc, oc, none⟩) nc cc, .int .i64 sh, .int .i64 hg, .bool bl] 79)).drew.cell? ⟨gt, ot + T * 5 + 2, none⟩ = some (.int .i64 sh) ∧ ((w.alloc (.cells #[.slice (some ⟨gt, ot, none⟩) nt ct, .slice Ak nk ck, .int .i64 a, .int .i64 b, .int .i64 c, .int .i64 d, .int .i64 e, .int .i64 W, .int .i64 H, .slice (some ⟨gx, ox, none⟩) mt bx, r, y] 44)).alloc (.cells #[.string nm, .slice (some ⟨gc, oc, none⟩) nc cc, .int .i64 sh, .int .i64 hg, .bool bl] 79)).drew.cell? ⟨gt, ot + T * 5 + 3, none⟩ = some (.int .i64 hg) ∧ ((w.alloc (.cells #[.slice (some ⟨gt, ot, none⟩) nt ct, .slice Ak nk ck, .int .i64 a, .int .i64 b, .int .i64 c, .int .i64 d, .int .i64 e, .int .i64 W, .int .i64 H, .slice (some ⟨gx, ox, none⟩) mt bx, r, y] 44)).alloc (.cells #[.string nm, .slice (some ⟨gc, oc, none⟩) nc cc, .int .i64 sh, .int .i64 hg, .bool bl] 79)).drew.cell? ⟨gt, ot + T * 5 + 4, none⟩ = some (.bool bl) ∧ ((w.alloc (.cells #[.slice (some ⟨gt, ot, none⟩) nt ct, .slice Ak nk ck, .int .i64 a, .int .i64 b, .int .i64 c, .int .i64 d, .int .i64 e, .int .i64 W, .int .i64 H, .slice (some ⟨gx, ox, none⟩) mt bx, r, y] 44)).alloc (.cells #[.string nm, .slice (some ⟨gc, oc, none⟩) nc cc, .int .i64 sh, .int .i64 hg, .bool bl] 79)).drew.cell? ⟨gc, oc + k, none⟩ = some (.int .i64 z) := ⟨by simp [go_sem], by simp [go_sem], KB.cell q1, KB.cell u0, KB.cell q2, KB.cell u2, KB.cell u3, KB.cell u4, KB.cell q3⟩
  have p3 := KB.cell q3
  clear q1 q2 q3 u0 u2 u3 u4
  go_region_held3 (fun w' => w'.cell? ⟨w.heap.size, 0, none⟩ = some (.slice (some ⟨gt, ot, none⟩) nt ct) ∧ w'.cell? ⟨w.heap.size, 9, none⟩ = some (.slice (some ⟨gx, ox, none⟩) mt bx) ∧ w'.cell? ⟨gx, ox + i, none⟩ = some (.int .i64 (T : Int)) ∧ w'.cell? ⟨gt, ot + T * 5, none⟩ = some (.string nm) ∧ w'.cell? ⟨gt, ot + T * 5 + 1, none⟩ = some (.slice (some ⟨gc, oc, none⟩) nc cc) ∧ w'.cell? ⟨gt, ot + T * 5 + 2, none⟩ = some (.int .i64 sh) ∧ w'.cell? ⟨gt, ot + T * 5 + 3, none⟩ = some (.int .i64 hg) ∧ w'.cell? ⟨gt, ot + T * 5 + 4, none⟩ = some (.bool bl) ∧ w'.cell? ⟨gc, oc + k, none⟩ = some (.int .i64 z)) (first | assumption | exact s0 | exact s1) (fail)
  go_wp2_with fail
  exact bodyPost_ret (v := tv nm (some ⟨gc, oc, none⟩) nc cc sh hg bl) (by simp [results, Tryd.results102, go_sem]) rfl ⟨nm, gc, oc, nc, cc, sh, hg, bl, rfl, f2, p3, KB.drew⟩

theorem fieldCost (nm : ByteArray) (A : Option Addr) (n c : Nat) (s h : Int) (b : Bool) (w : World) : (Instr.field 79 (tv nm A n c s h b) 1).run Tryd.prog w = .ok (.slice A n c) w := by kernel_rfl

set_option maxRecDepth 100000 in
set_option maxHeartbeats 4000000 in
theorem bCost_any (At Ak : Option Addr) (nt nk ct ck : Nat) (l : List Ter) (m : List Knd) (a b c d e W H : Int) (x r y : Value) (lt lr ld : List Int) (k i : Nat) (w : World) (hB : BrdAt w At Ak nt nk l m x r y lt lr ld) (hok : brdOk ⟨l, m, a, b, c, d, e⟩ W H lt lr ld = true) (hk : k < m.length) (hi : i < lt.length) :
    Calls Tryd.prog 68 #[bv (.slice At nt ct) (.slice Ak nk ck) a b c d e W H x r y, .int .i64 (k : Int), .int .i64 (i : Int)] w fun e' w' => e' = .returned (.int .i64 (costB l lt k i)) ∧ Kp w w' := by
  have KA : Kp w (w.alloc (.cells #[.slice At nt ct, .slice Ak nk ck, .int .i64 a, .int .i64 b, .int .i64 c, .int .i64 d, .int .i64 e, .int .i64 W, .int .i64 H, x, r, y] 44)) := (Kp.refl w).alloc _
  have C1 := Lib.hid (bTerrain_any At Ak nt nk ct ck l m a b c d e W H x r y lt lr ld k i _ (hB.keep KA) hok hk hi)
  have hk4 : k < 4 := by have := (rulOk_nt (brdOk_rul hok)).2.2; omega
  generalize costB l lt k i = X at C1 ⊢
  clear hB hok hk hi
  go_enter Tryd.func68, Tryd.ntmps68
  go_wp2_with fail
  refine C1.out.mono ?_
  rintro e1 w1 ⟨nm, g, o, n, c', s, h, b', rfl, hkn, p, k1⟩
  have hf := fun w => fieldCost nm (some ⟨g, o, none⟩) n c' s h b' w
  go_wp2_with fail
  go_ret
  exact ⟨rfl, KA.trans k1⟩

set_option maxRecDepth 100000 in
set_option maxHeartbeats 4000000 in
theorem bOpen_any (At Ak : Option Addr) (nt nk ct ck : Nat) (l : List Ter) (m : List Knd) (a b c d e W H : Int) (x r y : Value) (lt lr ld : List Int) (k : Nat) (w : World) (hB : BrdAt w At Ak nt nk l m x r y lt lr ld) (hok : brdOk ⟨l, m, a, b, c, d, e⟩ W H lt lr ld = true) (hk : k < m.length) :
    Calls Tryd.prog 72 #[bv (.slice At nt ct) (.slice Ak nk ck) a b c d e W H x r y, .int .i64 (k : Int)] w fun e' w' => ∃ v, e' = .returned v ∧ OwnI w' (w.heap.size + 1) v (opnL l lt k lt.length) ∧ Kp w w' := by
  obtain ⟨n, hn⟩ : ∃ n, lt.length = n := ⟨_, rfl⟩
  obtain ⟨Bx, bx, ex, _⟩ := hB.L.rt
  rw [hn] at ex
  subst ex
  have KA : Kp w (w.alloc (.cells #[.slice At nt ct, .slice Ak nk ck, .int .i64 a, .int .i64 b, .int .i64 c, .int .i64 d, .int .i64 e, .int .i64 W, .int .i64 H, .slice Bx n bx, r, y] 44)) := (Kp.refl w).alloc _
  have s0 : (w.alloc (.cells #[.slice At nt ct, .slice Ak nk ck, .int .i64 a, .int .i64 b, .int .i64 c, .int .i64 d, .int .i64 e, .int .i64 W, .int .i64 H, .slice Bx n bx, r, y] 44)).cell? ⟨w.heap.size, 0, none⟩ = some (.slice At nt ct) ∧ (w.alloc (.cells #[.slice At nt ct, .slice Ak nk ck, .int .i64 a, .int .i64 b, .int .i64 c, .int .i64 d, .int .i64 e, .int .i64 W, .int .i64 H, .slice Bx n bx, r, y] 44)).cell? ⟨w.heap.size, 1, none⟩ = some (.slice Ak nk ck) ∧ (w.alloc (.cells #[.slice At nt ct, .slice Ak nk ck, .int .i64 a, .int .i64 b, .int .i64 c, .int .i64 d, .int .i64 e, .int .i64 W, .int .i64 H, .slice Bx n bx, r, y] 44)).cell? ⟨w.heap.size, 2, none⟩ = some (.int .i64 a) ∧ (w.alloc (.cells #[.slice At nt ct, .slice Ak nk ck, .int .i64 a, .int .i64 b, .int .i64 c, .int .i64 d, .int .i64 e, .int .i64 W, .int .i64 H, .slice Bx n bx, r, y] 44)).cell? ⟨w.heap.size, 3, none⟩ = some (.int .i64 b) ∧ (w.alloc (.cells #[.slice At nt ct, .slice Ak nk ck, .int .i64 a, .int .i64 b, .int .i64 c, .int .i64 d, .int .i64 e, .int .i64 W, .int .i64 H, .slice Bx n bx, r, y] 44)).cell? ⟨w.heap.size, 4, none⟩ = some (.int .i64 c) ∧ (w.alloc (.cells #[.slice At nt ct, .slice Ak nk ck, .int .i64 a, .int .i64 b, .int .i64 c, .int .i64 d, .int .i64 e, .int .i64 W, .int .i64 H, .slice Bx n bx, r, y] 44)).cell? ⟨w.heap.size, 5, none⟩ = some (.int .i64 d) ∧ (w.alloc (.cells #[.slice At nt ct, .slice Ak nk ck, .int .i64 a, .int .i64 b, .int .i64 c, .int .i64 d, .int .i64 e, .int .i64 W, .int .i64 H, .slice Bx n bx, r, y] 44)).cell? ⟨w.heap.size, 6, none⟩ = some (.int .i64 e) ∧ (w.alloc (.cells #[.slice At nt ct, .slice Ak nk ck, .int .i64 a, .int .i64 b, .int .i64 c, .int .i64 d, .int .i64 e, .int .i64 W, .int .i64 H, .slice Bx n bx, r, y] 44)).cell? ⟨w.heap.size, 7, none⟩ = some (.int .i64 W) ∧ (w.alloc (.cells #[.slice At nt ct, .slice Ak nk ck, .int .i64 a, .int .i64 b, .int .i64 c, .int .i64 d, .int .i64 e, .int .i64 W, .int .i64 H, .slice Bx n bx, r, y] 44)).cell? ⟨w.heap.size, 8, none⟩ = some (.int .i64 H) ∧ (w.alloc (.cells #[.slice At nt ct, .slice Ak nk ck, .int .i64 a, .int .i64 b, .int .i64 c, .int .i64 d, .int .i64 e, .int .i64 W, .int .i64 H, .slice Bx n bx, r, y] 44)).cell? ⟨w.heap.size, 9, none⟩ = some (.slice Bx n bx) ∧ (w.alloc (.cells #[.slice At nt ct, .slice Ak nk ck, .int .i64 a, .int .i64 b, .int .i64 c, .int .i64 d, .int .i64 e, .int .i64 W, .int .i64 H, .slice Bx n bx, r, y] 44)).cell? ⟨w.heap.size, 10, none⟩ = some (r) ∧ (w.alloc (.cells #[.slice At nt ct, .slice Ak nk ck, .int .i64 a, .int .i64 b, .int .i64 c, .int .i64 d, .int .i64 e, .int .i64 W, .int .i64 H, .slice Bx n bx, r, y] 44)).cell? ⟨w.heap.size, 11, none⟩ = some (y) ∧ Kp w (w.alloc (.cells #[.slice At nt ct, .slice Ak nk ck, .int .i64 a, .int .i64 b, .int .i64 c, .int .i64 d, .int .i64 e, .int .i64 W, .int .i64 H, .slice Bx n bx, r, y] 44)) := ⟨by simp [go_sem], by simp [go_sem], by simp [go_sem], by simp [go_sem], by simp [go_sem], by simp [go_sem], by simp [go_sem], by simp [go_sem], by simp [go_sem], by simp [go_sem], by simp [go_sem], by simp [go_sem], KA⟩
  have HB := Lib.hid hB
  obtain ⟨h1, h2, h3, h4⟩ := mapOk_side (brdOk_map hok)
  have hA := area_bd h1 h2 h3 h4
  have hlen := mapOk_len (brdOk_map hok)
  have hn1 : n ≤ 100 := by omega
  rw [hn]
  have HF : Hid (∀ i, i < n → Hid (∀ w, BrdAt w At Ak nt nk l m (.slice Bx n bx) r y lt lr ld → Calls Tryd.prog 68 #[bv (.slice At nt ct) (.slice Ak nk ck) a b c d e W H (.slice Bx n bx) r y, .int .i64 (k : Int), .int .i64 (i : Int)] w fun e' w' => e' = .returned (.int .i64 (costB l lt k i)) ∧ Kp w w')) := Lib.hid fun i hi => Lib.hid fun w h => bCost_any At Ak nt nk ct ck l m a b c d e W H (.slice Bx n bx) r y lt lr ld k i w h hok hk (by rw [hn]; exact hi)
  have HP : Hid (∀ i, opnB l lt k i = decide (0 < costB l lt k i)) := Lib.hid fun i => rfl
  have e0 : opnL l lt k n = filN (opnB l lt k) n := rfl
  rw [e0]
  generalize hF : opnB l lt k = F at HF HP ⊢
  generalize hG : costB l lt k = G at HF HP
  obtain ⟨j0, hj0, hz0, hs0, hb0⟩ := info_parts infoInt
  clear hB hok hk hlen hn hA KA hF hG
  go_enter Tryd.func72, Tryd.ntmps72
  go_wp2_with fail
  go_loopw [5, 6, 11] (fun v _ sq wx => ∃ q : Nat, q ≤ n ∧ sq = .int .i64 q ∧ OwnI wx (w.heap.size + 1) v (filN F q) ∧ wx.cell? ⟨w.heap.size, 0, none⟩ = some (.slice At nt ct) ∧ wx.cell? ⟨w.heap.size, 1, none⟩ = some (.slice Ak nk ck) ∧ wx.cell? ⟨w.heap.size, 2, none⟩ = some (.int .i64 a) ∧ wx.cell? ⟨w.heap.size, 3, none⟩ = some (.int .i64 b) ∧ wx.cell? ⟨w.heap.size, 4, none⟩ = some (.int .i64 c) ∧ wx.cell? ⟨w.heap.size, 5, none⟩ = some (.int .i64 d) ∧ wx.cell? ⟨w.heap.size, 6, none⟩ = some (.int .i64 e) ∧ wx.cell? ⟨w.heap.size, 7, none⟩ = some (.int .i64 W) ∧ wx.cell? ⟨w.heap.size, 8, none⟩ = some (.int .i64 H) ∧ wx.cell? ⟨w.heap.size, 9, none⟩ = some (.slice Bx n bx) ∧ wx.cell? ⟨w.heap.size, 10, none⟩ = some (r) ∧ wx.cell? ⟨w.heap.size, 11, none⟩ = some (y) ∧ Kp w wx) (fun _ _ sq _ => n - (intOf sq).toNat)
  case atStart => exact ⟨0, by omega, rfl, OwnI.nil _ _, s0⟩
  case round =>
    clear s0
    obtain ⟨q, hqn, rfl, hoR, sr⟩ := hrel
    by_cases hlt : q < n
    · have hlt' : (q : Int) < n := by omega
      have HO := Lib.hid hoR
      have kr : Kp w wr := sr.2.2.2.2.2.2.2.2.2.2.2.2
      clear hoR
      cases hf : F q
      · have HS : Hid (filN F (q + 1) = filN F q) := Lib.hid (filN_no hf)
        have hg : ¬ 0 < G q := by
          have := HP.out q
          rw [hf] at this
          simpa using this
        go_wp2_with fail
        refine ((HF.out q hlt).out _ (HB.out.keep kr)).mono ?_
        rintro e1 w1 ⟨rfl, k1⟩
        have HO1 := Lib.hid (HO.out.keep k1)
        have s1 : w1.cell? ⟨w.heap.size, 0, none⟩ = some (.slice At nt ct) ∧ w1.cell? ⟨w.heap.size, 1, none⟩ = some (.slice Ak nk ck) ∧ w1.cell? ⟨w.heap.size, 2, none⟩ = some (.int .i64 a) ∧ w1.cell? ⟨w.heap.size, 3, none⟩ = some (.int .i64 b) ∧ w1.cell? ⟨w.heap.size, 4, none⟩ = some (.int .i64 c) ∧ w1.cell? ⟨w.heap.size, 5, none⟩ = some (.int .i64 d) ∧ w1.cell? ⟨w.heap.size, 6, none⟩ = some (.int .i64 e) ∧ w1.cell? ⟨w.heap.size, 7, none⟩ = some (.int .i64 W) ∧ w1.cell? ⟨w.heap.size, 8, none⟩ = some (.int .i64 H) ∧ w1.cell? ⟨w.heap.size, 9, none⟩ = some (.slice Bx n bx) ∧ w1.cell? ⟨w.heap.size, 10, none⟩ = some (r) ∧ w1.cell? ⟨w.heap.size, 11, none⟩ = some (y) ∧ Kp w w1 := ⟨k1.cell sr.1, k1.cell sr.2.1, k1.cell sr.2.2.1, k1.cell sr.2.2.2.1, k1.cell sr.2.2.2.2.1, k1.cell sr.2.2.2.2.2.1, k1.cell sr.2.2.2.2.2.2.1, k1.cell sr.2.2.2.2.2.2.2.1, k1.cell sr.2.2.2.2.2.2.2.2.1, k1.cell sr.2.2.2.2.2.2.2.2.2.1, k1.cell sr.2.2.2.2.2.2.2.2.2.2.1, k1.cell sr.2.2.2.2.2.2.2.2.2.2.2.1, kr.trans k1⟩
        clear sr k1 HO kr
        go_wp2_with fail
        go_roundw
        case rel => exact ⟨q + 1, by omega, by go_num, by rw [HS.out]; exact HO1.out, s1⟩
        case measure => simp [intOf]; omega
      · have HS : Hid (filN F (q + 1) = filN F q ++ [(q : Int)]) := Lib.hid (filN_yes hf)
        have hln := Lib.hid (filN_len F q)
        have hg :  0 < G q := by
          have := HP.out q
          rw [hf] at this
          simpa using this
        go_wp2_with fail
        refine ((HF.out q hlt).out _ (HB.out.keep kr)).mono ?_
        rintro e1 w1 ⟨rfl, k1⟩
        have HO1 := Lib.hid (HO.out.keep k1)
        have s1 : w1.cell? ⟨w.heap.size, 0, none⟩ = some (.slice At nt ct) ∧ w1.cell? ⟨w.heap.size, 1, none⟩ = some (.slice Ak nk ck) ∧ w1.cell? ⟨w.heap.size, 2, none⟩ = some (.int .i64 a) ∧ w1.cell? ⟨w.heap.size, 3, none⟩ = some (.int .i64 b) ∧ w1.cell? ⟨w.heap.size, 4, none⟩ = some (.int .i64 c) ∧ w1.cell? ⟨w.heap.size, 5, none⟩ = some (.int .i64 d) ∧ w1.cell? ⟨w.heap.size, 6, none⟩ = some (.int .i64 e) ∧ w1.cell? ⟨w.heap.size, 7, none⟩ = some (.int .i64 W) ∧ w1.cell? ⟨w.heap.size, 8, none⟩ = some (.int .i64 H) ∧ w1.cell? ⟨w.heap.size, 9, none⟩ = some (.slice Bx n bx) ∧ w1.cell? ⟨w.heap.size, 10, none⟩ = some (r) ∧ w1.cell? ⟨w.heap.size, 11, none⟩ = some (y) ∧ Kp w w1 := ⟨k1.cell sr.1, k1.cell sr.2.1, k1.cell sr.2.2.1, k1.cell sr.2.2.2.1, k1.cell sr.2.2.2.2.1, k1.cell sr.2.2.2.2.2.1, k1.cell sr.2.2.2.2.2.2.1, k1.cell sr.2.2.2.2.2.2.2.1, k1.cell sr.2.2.2.2.2.2.2.2.1, k1.cell sr.2.2.2.2.2.2.2.2.2.1, k1.cell sr.2.2.2.2.2.2.2.2.2.2.1, k1.cell sr.2.2.2.2.2.2.2.2.2.2.2.1, kr.trans k1⟩
        have n0 := Lib.hid (HO1.out.not (g := w.heap.size) (by omega))
        have n1 := Lib.hid (HO1.out.not (g := w.heap.size) (by omega))
        have n2 := Lib.hid (HO1.out.not (g := w.heap.size) (by omega))
        have n3 := Lib.hid (HO1.out.not (g := w.heap.size) (by omega))
        have n4 := Lib.hid (HO1.out.not (g := w.heap.size) (by omega))
        have n5 := Lib.hid (HO1.out.not (g := w.heap.size) (by omega))
        have n6 := Lib.hid (HO1.out.not (g := w.heap.size) (by omega))
        have n7 := Lib.hid (HO1.out.not (g := w.heap.size) (by omega))
        have n8 := Lib.hid (HO1.out.not (g := w.heap.size) (by omega))
        have n9 := Lib.hid (HO1.out.not (g := w.heap.size) (by omega))
        have n10 := Lib.hid (HO1.out.not (g := w.heap.size) (by omega))
        have n11 := Lib.hid (HO1.out.not (g := w.heap.size) (by omega))
        have hbw : w.heap.size ≤ w1.heap.size := s1.2.2.2.2.2.2.2.2.2.2.2.2.size
        clear sr k1 HO kr
        go_wp2_with (at_builtin; refine wpList_append_own_at _ rfl (.tmp 19) (.tmp 21) 35 rfl (w.heap.size + 1) 3 j0 (.int .i64 0) 1 8 Tryd.underlying35 hj0 hz0 hs0 hb0 rfl (by decide) _ (filN F q).length (cellsI (filN F q)) rfl (World.ownsRow.alloc HO1.out _) ⟨w1.heap.size, 0, none⟩ 1 1 [.int .i64 q] rfl rfl (one_cell _ _ _) (by simp [Value.oneCell']) (by have := hln.out; simp only [maxLen]; omega) (by have := hln.out; omega) (by simp; omega) ?_; intro v' w3 hown2 hgrow2 hnil2 hat2; clear hnil2 hat2; have s5 : w3.cell? ⟨w.heap.size, 0, none⟩ = some (.slice At nt ct) ∧ w3.cell? ⟨w.heap.size, 1, none⟩ = some (.slice Ak nk ck) ∧ w3.cell? ⟨w.heap.size, 2, none⟩ = some (.int .i64 a) ∧ w3.cell? ⟨w.heap.size, 3, none⟩ = some (.int .i64 b) ∧ w3.cell? ⟨w.heap.size, 4, none⟩ = some (.int .i64 c) ∧ w3.cell? ⟨w.heap.size, 5, none⟩ = some (.int .i64 d) ∧ w3.cell? ⟨w.heap.size, 6, none⟩ = some (.int .i64 e) ∧ w3.cell? ⟨w.heap.size, 7, none⟩ = some (.int .i64 W) ∧ w3.cell? ⟨w.heap.size, 8, none⟩ = some (.int .i64 H) ∧ w3.cell? ⟨w.heap.size, 9, none⟩ = some (.slice Bx n bx) ∧ w3.cell? ⟨w.heap.size, 10, none⟩ = some (r) ∧ w3.cell? ⟨w.heap.size, 11, none⟩ = some (y) ∧ Kp w w3 := ⟨hgrow2.cell (((Kp.refl w1).alloc (.cells #[.int .i64 (q : Int)] 3)).cell s1.1) (fun e => n0.out e.symm), hgrow2.cell (((Kp.refl w1).alloc (.cells #[.int .i64 (q : Int)] 3)).cell s1.2.1) (fun e => n1.out e.symm), hgrow2.cell (((Kp.refl w1).alloc (.cells #[.int .i64 (q : Int)] 3)).cell s1.2.2.1) (fun e => n2.out e.symm), hgrow2.cell (((Kp.refl w1).alloc (.cells #[.int .i64 (q : Int)] 3)).cell s1.2.2.2.1) (fun e => n3.out e.symm), hgrow2.cell (((Kp.refl w1).alloc (.cells #[.int .i64 (q : Int)] 3)).cell s1.2.2.2.2.1) (fun e => n4.out e.symm), hgrow2.cell (((Kp.refl w1).alloc (.cells #[.int .i64 (q : Int)] 3)).cell s1.2.2.2.2.2.1) (fun e => n5.out e.symm), hgrow2.cell (((Kp.refl w1).alloc (.cells #[.int .i64 (q : Int)] 3)).cell s1.2.2.2.2.2.2.1) (fun e => n6.out e.symm), hgrow2.cell (((Kp.refl w1).alloc (.cells #[.int .i64 (q : Int)] 3)).cell s1.2.2.2.2.2.2.2.1) (fun e => n7.out e.symm), hgrow2.cell (((Kp.refl w1).alloc (.cells #[.int .i64 (q : Int)] 3)).cell s1.2.2.2.2.2.2.2.2.1) (fun e => n8.out e.symm), hgrow2.cell (((Kp.refl w1).alloc (.cells #[.int .i64 (q : Int)] 3)).cell s1.2.2.2.2.2.2.2.2.2.1) (fun e => n9.out e.symm), hgrow2.cell (((Kp.refl w1).alloc (.cells #[.int .i64 (q : Int)] 3)).cell s1.2.2.2.2.2.2.2.2.2.2.1) (fun e => n10.out e.symm), hgrow2.cell (((Kp.refl w1).alloc (.cells #[.int .i64 (q : Int)] 3)).cell s1.2.2.2.2.2.2.2.2.2.2.2.1) (fun e => n11.out e.symm), (s1.2.2.2.2.2.2.2.2.2.2.2.2.alloc _).grown hgrow2 (fun k e => by have := (World.ownsRow.lt HO1.out k e).1; omega)⟩; have O3 := Lib.hid (OwnI.snoc (x := q) hown2); clear hown2 hgrow2)
        go_roundw
        case rel => exact ⟨q + 1, by omega, by go_num, by rw [HS.out]; exact O3.out, s5⟩
        case measure => simp [intOf]; omega
    · obtain rfl : q = n := by omega
      go_wp2_with fail
      go_ret
      exact ⟨_, rfl, hoR, sr.2.2.2.2.2.2.2.2.2.2.2.2⟩

end Go.Proofs.YtkkcnofplddbmaaDoor
