/-
  CostliestStep of both sides; slices.Max on numbers. Nothing that was there is changed. The named variables hold what the program's text lays.
-/
import Derived.Test.YtngifnnpimfimaaDoorCsT
import Derived.StillTailTactics
import Derived.Deep.Cut
import Derived.Maps.AppendAt
import Derived.Test.YtngifnnpimfimaaDoorQa
import Derived.Test.YtngifnnpimfimaaDoorQa
namespace Go.Proofs.YtngifnnpimfimaaDoor
open Go.RowKit

/-- The greatest cost of the steps from the first n hexes, and 0. -/
def topN (F : Int → Int → Int) (n : Nat) : Int := mxN (fun j => mxL 0 (sixN (F j) 6)) n
theorem mxL_first {L : List Int} {X : Int} (h0 : L[0]? = some X) (hX : 0 ≤ X) : mxL X L = mxL 0 L := by
  cases L with
  | nil => simp at h0
  | cons y l =>
    simp only [List.getElem?_cons_zero, Option.some.injEq] at h0
    subst h0
    simp only [mxL]
    rw [Int.max_self, Int.max_eq_right hX]
theorem topN_bd {F : Int → Int → Int} {B : Int} (hB : 0 ≤ B) (h : ∀ i x, 0 ≤ F i x ∧ F i x ≤ B) : ∀ n, 0 ≤ topN F n ∧ topN F n ≤ B
  | 0 => by simp [topN, mxN, hB]
  | n + 1 => by
    have h1 := topN_bd hB h n
    have h2 := mxL_bd (B := B) (sixN (F n) 6) 0 ⟨by omega, hB⟩ (fun x hx => by
      obtain ⟨q, _, rfl⟩ := sixN_mem hx
      exact h _ _)
    simp only [topN, mxN] at h1 ⊢
    omega

set_option maxRecDepth 100000 in
set_option maxHeartbeats 4000000 in
theorem slicesMax_any (v : Value) (L : List Int) (X : Int) (w : World) (h : RdI w v L) (hl : L.length ≤ 1048576) (h0 : L[0]? = some X) :
    Calls Tryd.prog 60 #[v] w fun e w' => e = .returned (.int .i64 (mxL X L)) ∧ w = w' := by
  obtain ⟨A, cp, rfl, h⟩ := h
  obtain ⟨n, hn⟩ : ∃ n, n = L.length := ⟨_, rfl⟩
  have HN := Lib.hid hn
  have hn0 : 0 < n := by have := (List.getElem?_eq_some_iff.1 h0).1; omega
  obtain ⟨g, off, rfl, hc⟩ := h (by omega)
  have HC := Lib.hid hc
  have a0 := hc 0 X h0
  rw [Nat.add_zero] at a0
  have hn1 : ¬ (n : Int) < 1 := by omega
  have HX : Hid (mxL X (L.take 1) = X) := Lib.hid (by
    cases L with
    | nil => simp at h0
    | cons y l =>
      simp only [List.getElem?_cons_zero, Option.some.injEq] at h0
      subst h0
      simp [mxL])
  rw [← hn] at hl ⊢
  obtain ⟨R, hR⟩ : ∃ R, R = mxL X L := ⟨_, rfl⟩
  rw [← hR]
  have HR := Lib.hid hR
  clear h hc hn h0 hR
  go_enter Tryd.func60, Tryd.ntmps60
  go_wp2_with fail
  go_loop [3, 4] (fun sm si => ∃ q : Nat, 1 ≤ q ∧ q ≤ n ∧ si = .int .i64 q ∧ ∃ Z : Int, sm = .int .i64 Z ∧ Hid (Z = mxL X (L.take q))) (fun _ si => n - (intOf si).toNat)
  case atStart => exact ⟨1, by omega, by omega, rfl, X, rfl, Lib.hid HX.out.symm⟩
  case round =>
    obtain ⟨q, hq1, hq, rfl, Z, rfl, hZ⟩ := hrel
    by_cases hlt : q < n
    · obtain ⟨z, hz⟩ : ∃ z, L[q]? = some z := ⟨L[q]'(by have := HN.out; omega), List.getElem?_eq_getElem _⟩
      have a1 := HC.out q z hz
      have HZ2 : Hid (max Z z = mxL X (L.take (q + 1))) := Lib.hid (by rw [mxL_take hz, hZ.out])
      clear hz
      have hlt' : (q : Int) < n := by omega
      by_cases hzc : z ≤ Z
      · have HZ4 : Hid (Z = mxL X (L.take (q + 1))) := Lib.hid (by rw [← HZ2.out]; omega)
        go_wp2_with fail
        go_round
        case rel => exact ⟨q + 1, by omega, by omega, by go_num, Z, rfl, HZ4⟩
        case measure => simp [intOf]; omega
      · have HZ4 : Hid (z = mxL X (L.take (q + 1))) := Lib.hid (by rw [← HZ2.out]; omega)
        go_wp2_with fail
        go_round
        case rel => exact ⟨q + 1, by omega, by omega, by go_num, z, rfl, HZ4⟩
        case measure => simp [intOf]; omega
    · obtain rfl : q = n := by omega
      have HZ3 : Hid (Z = R) := Lib.hid (by rw [hZ.out, HR.out, HN.out, List.take_length])
      go_wp2_with fail
      go_ret
      exact ⟨ret_int HZ3.out, rfl⟩

theorem l1MostC_any (a b : Int) (w : World) : Calls Tryd.prog 57 #[.int .i64 a, .int .i64 b] w fun e w' => e = .returned (.int .i64 (max a b)) ∧ w = w' := by
  by_cases h : b < a
  · go_enter Tryd.func57, Tryd.ntmps57
    go_wp2_with fail
    go_ret
    exact ⟨ret_int (by omega), rfl⟩
  · go_enter Tryd.func57, Tryd.ntmps57
    go_wp2_with fail
    go_ret
    exact ⟨ret_int (by omega), rfl⟩

set_option maxRecDepth 100000 in
set_option maxHeartbeats 4000000 in
theorem costliestStepP_any (At Ak : Option Addr) (nt nk ct ck : Nat) (l : List Ter) (m : List Knd) (a b c d e W H : Int) (x r y : Value) (lt lr ld : List Int) (kx tw : Int) (w : World) (hs : SpC w) (ht : Tab w) (hB : BrdAt w At Ak nt nk l m x r y lt lr ld) :
    Calls Tryd.prog 28 #[bv (.slice At nt ct) (.slice Ak nk ck) a b c d e W H x r y, .int .i64 kx, .int .i64 tw] w fun e' w' => e' = .returned (ib ((brdOk ⟨l, m, a, b, c, d, e⟩ W H lt lr ld && inB kx nk) && spB 0 2 tw) (topN (stp l lt lr ld W H b c kx.toNat tw) lt.length)) ∧ Kp w w' := by
  have KA : Kp w (w.alloc (.cells #[.slice At nt ct, .slice Ak nk ck, .int .i64 a, .int .i64 b, .int .i64 c, .int .i64 d, .int .i64 e, .int .i64 W, .int .i64 H, x, r, y] 42)) := (Kp.refl w).alloc _
  have s0 : cb12 (w.alloc (.cells #[.slice At nt ct, .slice Ak nk ck, .int .i64 a, .int .i64 b, .int .i64 c, .int .i64 d, .int .i64 e, .int .i64 W, .int .i64 H, x, r, y] 42)) (w.heap.size) (.slice At nt ct) (.slice Ak nk ck) (.int .i64 a) (.int .i64 b) (.int .i64 c) (.int .i64 d) (.int .i64 e) (.int .i64 W) (.int .i64 H) (x) (r) (y) (Kp w (w.alloc (.cells #[.slice At nt ct, .slice Ak nk ck, .int .i64 a, .int .i64 b, .int .i64 c, .int .i64 d, .int .i64 e, .int .i64 W, .int .i64 H, x, r, y] 42))) := ⟨by simp [go_sem], by simp [go_sem], by simp [go_sem], by simp [go_sem], by simp [go_sem], by simp [go_sem], by simp [go_sem], by simp [go_sem], by simp [go_sem], by simp [go_sem], by simp [go_sem], by simp [go_sem], KA⟩
  have HB := Lib.hid hB
  have HT := Lib.hid ht
  have HS := Lib.hid hs
  clear hB ht hs
  have CA := Lib.hid (fun (w : World) hs ht hB => isMoverOn_any At Ak nt nk ct ck l m a b c d e W H x r y lt lr ld kx tw w hs ht hB)
  cases hg0 : (brdOk ⟨l, m, a, b, c, d, e⟩ W H lt lr ld && inB kx nk) && spB 0 2 tw
  · rw [hg0] at CA
    clear hg0
    repeat (first | rw [Bool.true_and] | rw [Bool.and_true] | rw [Bool.false_and] | rw [Bool.and_false])
    go_enter Tryd.func28, Tryd.ntmps28
    go_wp2_with fail
    refine (CA.out _ (HS.out.keep s0.2.2.2.2.2.2.2.2.2.2.2.2) (HT.out.keep s0.2.2.2.2.2.2.2.2.2.2.2.2) (HB.out.keep s0.2.2.2.2.2.2.2.2.2.2.2.2)).mono ?_
    rintro e1 w1 ⟨rfl, k1⟩
    have s1 := keepq12 k1 s0
    clear s0 k1
    go_wp2_with fail
    go_ret2
    exact ⟨rfl, s1.2.2.2.2.2.2.2.2.2.2.2.2⟩
  · rw [hg0] at CA
    have hok : brdOk ⟨l, m, a, b, c, d, e⟩ W H lt lr ld = true := by
      simp only [Bool.and_eq_true] at hg0
      exact hg0.1.1
    have hkx : inB kx nk = true := by
      simp only [Bool.and_eq_true] at hg0
      exact hg0.1.2
    have hw : tw = 0 ∨ tw = 1 ∨ tw = 2 := by
      simp only [Bool.and_eq_true] at hg0
      exact wth_true hg0.2
    clear hg0
    obtain ⟨k, rfl, hk0⟩ := inB_at hkx
    have hk : k < m.length := by have := HB.out.R.rk.1; omega
    clear hkx
    rw [show ((k : Int)).toNat = k from rfl]
    obtain ⟨g1, g2, g3, g4⟩ := mapOk_side (brdOk_map hok)
    have hlen := mapOk_len (brdOk_map hok)
    have hA := area_bd g1 g2 g3 g4
    have HBD := Lib.hid (stp_bd (l := l) (a := a) (d := d) (e := e) (lt := lt) (lr := lr) (ld := ld) hok hk hw)
    obtain ⟨F, hF⟩ : ∃ F : Int → Int → Int, F = stp l lt lr ld W H b c k tw := ⟨_, rfl⟩
    rw [← hF] at HBD ⊢
    have CS : Hid (∀ (j : Nat), ∀ w, Tab w → BrdAt w At Ak nt nk l m x r y lt lr ld → Calls Tryd.prog 53 #[.agg #[.slice At nt ct, .slice Ak nk ck, .int .i64 a, .int .i64 b, .int .i64 c, .int .i64 d, .int .i64 e, .int .i64 W, .int .i64 H, x, r, y, .int .i64 (k : Int), .int .i64 tw], .int .i64 (j : Int)] w fun e' w' => ∃ v, e' = .returned v ∧ OwnI w' (w.heap.size + 1) v (sixN (F j) 6) ∧ Kp w w') := Lib.hid fun j w ht hB => by
      rw [hF]
      exact stepCosts_any At Ak nt nk ct ck l m a b c d e W H x r y lt lr ld k tw j w ht hB hok hk hw
    have CZ : Hid (∀ w, Calls Tryd.prog 59 #[mp W H x r y] w fun e w' => e = .returned (.int .i64 (lt.length : Int)) ∧ Kp w w') := Lib.hid fun w => by
      have h := countHexes_any W H x r y w g1 g2 g3 g4
      rw [← hlen] at h
      exact h
    have CM : Hid (∀ (j : Nat) (v : Value) w, RdI w v (sixN (F j) 6) → Calls Tryd.prog 60 #[v] w fun e w' => e = .returned (.int .i64 (mxL 0 (sixN (F j) 6))) ∧ w = w') := Lib.hid fun j v w h => by
      have h0 := sixN_at (F j) 6 0 (by omega)
      have h2 := slicesMax_any v _ _ w h (by rw [sixN_len]; omega) h0
      rw [mxL_first h0 (HBD.out _ _).1] at h2
      exact h2
    have hn1 : lt.length ≤ 100 := by omega
    generalize hn : lt.length = n at *
    clear hn hF hlen hA g1 g2 g3 g4 hok hw hk0 hk
    repeat (first | rw [Bool.true_and] | rw [Bool.and_true] | rw [Bool.false_and] | rw [Bool.and_false])
    go_enter Tryd.func28, Tryd.ntmps28
    go_wp2_with fail
    refine (CA.out _ (HS.out.keep s0.2.2.2.2.2.2.2.2.2.2.2.2) (HT.out.keep s0.2.2.2.2.2.2.2.2.2.2.2.2) (HB.out.keep s0.2.2.2.2.2.2.2.2.2.2.2.2)).mono ?_
    rintro e1 w1 ⟨rfl, k1⟩
    have s1 := keepq12 k1 s0
    clear s0 k1
    go_wp2_with fail
    refine (CZ.out _).mono ?_
    rintro e8 w8 ⟨rfl, k8⟩
    have s8 := keepq12 k8 s1
    clear s1 k8
    go_wp2_with fail
    go_loopw [8, 9, 18] (fun sa _ sq wx => ∃ q : Nat, q ≤ n ∧ sq = .int .i64 q ∧ ∃ Z : Int, sa = .int .i64 Z ∧ Hid (Z = topN F q) ∧ Kp w8 wx) (fun _ _ sq _ => n - (intOf sq).toNat)
    case atStart => exact ⟨0, by omega, rfl, 0, rfl, Lib.hid rfl, Kp.refl _⟩
    case round =>
      obtain ⟨q, hq, rfl, Z, rfl, HZ, kr⟩ := hrel
      have sr := keepq12 kr s8
      by_cases hlt : q < n
      · have hlt' : (q : Int) < n := by omega
        have CQ := Lib.hid (CS.out q)
        have CP := Lib.hid (CM.out q)
        have HN : Hid (max Z (mxL 0 (sixN (F q) 6)) = topN F (q + 1)) := Lib.hid (by rw [HZ.out]; rfl)
        generalize mxL 0 (sixN (F q) 6) = C at CP HN
        generalize sixN (F q) 6 = L at CQ CP
        by_cases hzc : C ≤ Z
        · have HN2 : Hid (Z = topN F (q + 1)) := Lib.hid (by rw [← HN.out]; omega)
          go_wp2_with fail
          refine (CQ.out _ (HT.out.keep sr.2.2.2.2.2.2.2.2.2.2.2.2) (HB.out.keep sr.2.2.2.2.2.2.2.2.2.2.2.2)).mono ?_
          rintro e9 w9 ⟨v9, rfl, o9, k9⟩
          have R9 := Lib.hid o9.rd
          have k90 := kr.trans k9
          clear o9 k9 kr sr
          go_wp2_with fail
          refine (CP.out _ _ R9.out).mono ?_
          rintro e7 w7 ⟨rfl, rfl⟩
          go_wp2_with fail
          go_roundw
          case rel => exact ⟨q + 1, by omega, by go_num, Z, rfl, HN2, k90⟩
          case measure => simp [intOf]; omega
        · have HN2 : Hid (C = topN F (q + 1)) := Lib.hid (by rw [← HN.out]; omega)
          go_wp2_with fail
          refine (CQ.out _ (HT.out.keep sr.2.2.2.2.2.2.2.2.2.2.2.2) (HB.out.keep sr.2.2.2.2.2.2.2.2.2.2.2.2)).mono ?_
          rintro e9 w9 ⟨v9, rfl, o9, k9⟩
          have R9 := Lib.hid o9.rd
          have k90 := kr.trans k9
          clear o9 k9 kr sr
          go_wp2_with fail
          refine (CP.out _ _ R9.out).mono ?_
          rintro e7 w7 ⟨rfl, rfl⟩
          go_wp2_with fail
          go_roundw
          case rel => exact ⟨q + 1, by omega, by go_num, C, rfl, HN2, k90⟩
          case measure => simp [intOf]; omega
      · obtain rfl : q = n := by omega
        go_wp2_with fail
        go_ret2
        exact ⟨by rw [← HZ.out]; rfl, sr.2.2.2.2.2.2.2.2.2.2.2.2⟩

set_option maxRecDepth 100000 in
set_option maxHeartbeats 4000000 in
theorem specCostliestStep_any (At Ak : Option Addr) (nt nk ct ck : Nat) (l : List Ter) (m : List Knd) (a b c d e W H : Int) (x r y : Value) (lt lr ld : List Int) (kx tw : Int) (w : World) (hB : BrdAt w At Ak nt nk l m x r y lt lr ld) :
    Calls Tryd.prog 27 #[bv (.slice At nt ct) (.slice Ak nk ck) a b c d e W H x r y, .int .i64 kx, .int .i64 tw] w fun e' w' => e' = .returned (ib ((brdOk ⟨l, m, a, b, c, d, e⟩ W H lt lr ld && inB kx nk) && spB 0 2 tw) (topN (stp l lt lr ld W H b c kx.toNat tw) lt.length)) ∧ Kp w w' := by
  have KA : Kp w (w.alloc (.cells #[.slice At nt ct, .slice Ak nk ck, .int .i64 a, .int .i64 b, .int .i64 c, .int .i64 d, .int .i64 e, .int .i64 W, .int .i64 H, x, r, y] 42)) := (Kp.refl w).alloc _
  have s0 : cb12 (w.alloc (.cells #[.slice At nt ct, .slice Ak nk ck, .int .i64 a, .int .i64 b, .int .i64 c, .int .i64 d, .int .i64 e, .int .i64 W, .int .i64 H, x, r, y] 42)) (w.heap.size) (.slice At nt ct) (.slice Ak nk ck) (.int .i64 a) (.int .i64 b) (.int .i64 c) (.int .i64 d) (.int .i64 e) (.int .i64 W) (.int .i64 H) (x) (r) (y) (Kp w (w.alloc (.cells #[.slice At nt ct, .slice Ak nk ck, .int .i64 a, .int .i64 b, .int .i64 c, .int .i64 d, .int .i64 e, .int .i64 W, .int .i64 H, x, r, y] 42))) := ⟨by simp [go_sem], by simp [go_sem], by simp [go_sem], by simp [go_sem], by simp [go_sem], by simp [go_sem], by simp [go_sem], by simp [go_sem], by simp [go_sem], by simp [go_sem], by simp [go_sem], by simp [go_sem], KA⟩
  have HB := Lib.hid hB
  clear hB
  have CA : Hid (∀ w, BrdAt w At Ak nt nk l m x r y lt lr ld → Calls Tryd.prog 35 #[bv (.slice At nt ct) (.slice Ak nk ck) a b c d e W H x r y, .int .i64 kx, .int .i64 tw, .int .i64 0] w fun e' w' => e' = .returned (.bool ((brdOk ⟨l, m, a, b, c, d, e⟩ W H lt lr ld && inB kx nk) && spB 0 2 tw)) ∧ Kp w w') := Lib.hid fun w hB => by
    have h := csInput_any At Ak nt nk ct ck l m a b c d e W H x r y lt lr ld kx tw 0 w hB
    rw [show ((brdOk ⟨l, m, a, b, c, d, e⟩ W H lt lr ld && inB kx nk && onI W H 0) && spB 0 2 tw) = ((brdOk ⟨l, m, a, b, c, d, e⟩ W H lt lr ld && inB kx nk) && spB 0 2 tw) by
      cases hb : brdOk ⟨l, m, a, b, c, d, e⟩ W H lt lr ld
      · simp
      · obtain ⟨p1, p2, p3, p4⟩ := mapOk_side (brdOk_map hb)
        rw [onI_zero p1 p3, Bool.and_true]] at h
    exact h
  cases hg0 : (brdOk ⟨l, m, a, b, c, d, e⟩ W H lt lr ld && inB kx nk) && spB 0 2 tw
  · rw [hg0] at CA
    clear hg0
    repeat (first | rw [Bool.true_and] | rw [Bool.and_true] | rw [Bool.false_and] | rw [Bool.and_false])
    go_enter Tryd.func27, Tryd.ntmps27
    go_wp2_with fail
    refine (CA.out _ (HB.out.keep s0.2.2.2.2.2.2.2.2.2.2.2.2)).mono ?_
    rintro e1 w1 ⟨rfl, k1⟩
    have s1 := keepq12 k1 s0
    clear s0 k1
    go_wp2_with fail
    go_ret2
    exact ⟨rfl, s1.2.2.2.2.2.2.2.2.2.2.2.2⟩
  · rw [hg0] at CA
    have hok : brdOk ⟨l, m, a, b, c, d, e⟩ W H lt lr ld = true := by
      simp only [Bool.and_eq_true] at hg0
      exact hg0.1.1
    have hkx : inB kx nk = true := by
      simp only [Bool.and_eq_true] at hg0
      exact hg0.1.2
    have hw : tw = 0 ∨ tw = 1 ∨ tw = 2 := by
      simp only [Bool.and_eq_true] at hg0
      exact wth_true hg0.2
    clear hg0
    obtain ⟨k, rfl, hk0⟩ := inB_at hkx
    have hk : k < m.length := by have := HB.out.R.rk.1; omega
    clear hkx
    rw [show ((k : Int)).toNat = k from rfl]
    obtain ⟨g1, g2, g3, g4⟩ := mapOk_side (brdOk_map hok)
    have hlen := mapOk_len (brdOk_map hok)
    have hA := area_bd g1 g2 g3 g4
    have HBD := Lib.hid (stp_bd (l := l) (a := a) (d := d) (e := e) (lt := lt) (lr := lr) (ld := ld) hok hk hw)
    obtain ⟨F, hF⟩ : ∃ F : Int → Int → Int, F = stp l lt lr ld W H b c k tw := ⟨_, rfl⟩
    rw [← hF] at HBD ⊢
    have CS : Hid (∀ (j : Nat), j < lt.length → ∀ w, BrdAt w At Ak nt nk l m x r y lt lr ld → Calls Tryd.prog 52 #[bv (.slice At nt ct) (.slice Ak nk ck) a b c d e W H x r y, .int .i64 (k : Int), .int .i64 tw, .int .i64 (j : Int)] w fun e' w' => ∃ v, e' = .returned v ∧ OwnI w' (w.heap.size + 1) v (sixN (F j) 6) ∧ Kp w w') := Lib.hid fun j hj w hB => by
      rw [hF]
      exact csAll_any At Ak nt nk ct ck l m a b c d e W H x r y lt lr ld k tw j w hB hok hk hw (onI_mk (by omega) (by omega))
    have CZ : Hid (∀ w, Calls Tryd.prog 56 #[mp W H x r y] w fun e w' => e = .returned (.int .i64 (lt.length : Int)) ∧ Kp w w') := Lib.hid fun w => by
      have h := mSize_any W H x r y w g1 g2 g3 g4
      rw [← hlen] at h
      exact h
    have hn1 : lt.length ≤ 100 := by omega
    generalize hn : lt.length = n at *
    clear hn hF hlen hA g1 g2 g3 g4 hok hw hk0 hk
    repeat (first | rw [Bool.true_and] | rw [Bool.and_true] | rw [Bool.false_and] | rw [Bool.and_false])
    go_enter Tryd.func27, Tryd.ntmps27
    go_wp2_with fail
    refine (CA.out _ (HB.out.keep s0.2.2.2.2.2.2.2.2.2.2.2.2)).mono ?_
    rintro e1 w1 ⟨rfl, k1⟩
    have s1 := keepq12 k1 s0
    clear s0 k1
    go_wp2_with fail
    go_loopw [8, 9, 11, 30] (fun sa si _ _ wx => ∃ q : Nat, q ≤ n ∧ si = .int .i64 q ∧ ∃ Z : Int, sa = .int .i64 Z ∧ Hid (Z = topN F q) ∧ Kp w1 wx) (fun _ si _ _ _ => n - (intOf si).toNat)
    case atStart => exact ⟨0, by omega, rfl, 0, rfl, Lib.hid rfl, Kp.refl _⟩
    case round =>
      obtain ⟨q, hq, rfl, Z, rfl, HZ, kr⟩ := hrel
      have sr := keepq12 kr s1
      by_cases hlt : q < n
      · have hlt' : (q : Int) < n := by omega
        have CQ := Lib.hid (CS.out q hlt)
        have HN : Hid (max Z (mxL 0 (sixN (F q) 6)) = topN F (q + 1)) := Lib.hid (by rw [HZ.out]; rfl)
        have hZ0 : 0 ≤ Z := by rw [HZ.out]; exact (topN_bd (by omega) HBD.out q).1
        have hL6 := sixN_len (F q) 6
        generalize sixN (F q) 6 = L at CQ HN hL6
        go_wp2_with fail
        refine (CZ.out _).mono ?_
        rintro e8 w8 ⟨rfl, k8⟩
        have s8 := keepq12 k8 sr
        have k80 := kr.trans k8
        clear sr k8 kr
        go_wp2_with fail
        refine (CQ.out _ (HB.out.keep s8.2.2.2.2.2.2.2.2.2.2.2.2)).mono ?_
        rintro e9 w9 ⟨v9, rfl, o9, k9⟩
        obtain ⟨A9, c9, e9, h9⟩ := o9.rd
        rw [hL6] at e9 h9
        subst e9
        obtain ⟨g9, o9', rfl, hc9⟩ := h9 (by omega)
        have HC := Lib.hid hc9
        have k90 := k80.trans k9
        clear o9 k9 k80 s8 h9 hc9
        go_wp2_with fail
        generalize hwo : wr = wo at *
        clear hwo
        go_loop [8, 11, 30] (fun sa _ sq => ∃ u : Nat, u ≤ 6 ∧ sq = .int .i64 u ∧ ∃ Y : Int, sa = .int .i64 Y ∧ Hid (Y = max Z (mxL 0 (L.take u)))) (fun _ _ sq => 6 - (intOf sq).toNat)
        case atStart => exact ⟨0, by omega, rfl, Z, rfl, Lib.hid (by simp only [List.take_zero, mxL]; omega)⟩
        case round =>
          obtain ⟨u, hu, rfl, Y, rfl, HY⟩ := hrel
          by_cases hut : u < 6
          · have hut' : (u : Int) < 6 := by omega
            obtain ⟨z, hz⟩ : ∃ z, L[u]? = some z := ⟨L[u]'(by omega), List.getElem?_eq_getElem _⟩
            have a0 := HC.out u z hz
            have HY2 : Hid (max Y z = max Z (mxL 0 (L.take (u + 1)))) := Lib.hid (by rw [mxL_take hz, HY.out, Int.max_assoc])
            have CP := Lib.hid (l1MostC_any Y z)
            clear hz
            go_wp2_with fail
            refine (CP.out _).mono ?_
            rintro e7 w7 ⟨rfl, rfl⟩
            go_wp2_with fail
            go_round
            case rel => exact ⟨u + 1, by omega, by go_num, max Y z, rfl, HY2⟩
            case measure => simp [intOf]; omega
          · obtain rfl : u = 6 := by omega
            have HN2 : Hid (Y = topN F (q + 1)) := Lib.hid (by rw [HY.out, ← HN.out, ← hL6, List.take_length])
            go_wp2_with fail
            go_roundw
            case rel => exact ⟨q + 1, by omega, by go_num, Y, rfl, HN2, k90⟩
            case measure => simp [intOf]; omega
      · obtain rfl : q = n := by omega
        go_wp2_with fail
        refine (CZ.out _).mono ?_
        rintro e8 w8 ⟨rfl, k8⟩
        go_wp2_with fail
        go_ret2
        exact ⟨by rw [← HZ.out]; rfl, sr.2.2.2.2.2.2.2.2.2.2.2.2.trans k8⟩

end Go.Proofs.YtngifnnpimfimaaDoor
