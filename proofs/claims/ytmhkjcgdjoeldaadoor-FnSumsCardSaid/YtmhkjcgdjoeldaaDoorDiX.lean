/-
  Numbers of lists of faces by their sum: both sides. Nothing that was there is changed.
-/
import Derived.Test.YtmhkjcgdjoeldaaDoorDiW
namespace Go.Proofs.YtmhkjcgdjoeldaaDoor
open Go.RowKit

def swB (n m : Int) : Bool := spB 0 8 n && spB (-100) 100 m
def sumN (n m : Int) : Int := if m < 0 then 0 else getI (waysL n.toNat) m.toNat
def atS (l : List Int) (m : Int) : Nat → Int
  | 0 => 0
  | q + 1 => if m ≤ (q : Int) then atS l m q + getI l q else atS l m q
theorem getI_none {l : List Int} {k : Nat} (h : l.length ≤ k) : getI l k = 0 := by
  unfold getI
  rw [List.getElem?_eq_none h]
  rfl
theorem atS_bd {l : List Int} {B m : Int} (hB : 0 ≤ B) (h : NB B l) : ∀ q : Nat, 0 ≤ atS l m q ∧ atS l m q ≤ (q : Int) * B
  | 0 => by simp [atS]
  | q + 1 => by
    have ih := atS_bd (m := m) hB h q
    have hg := h.get hB q
    have e : ((q + 1 : Nat) : Int) * B = (q : Int) * B + B := by rw [Int.natCast_succ, Int.add_mul]; omega
    rw [atS, e]
    split <;> omega
theorem ways_bd {n : Nat} (h : n ≤ 8) : NB 4000000000000000 (waysL n) := (waysL_bd n).le (wbd_le h)
theorem swB_and (n m : Int) : (spB 0 8 n && spB (-100) 100 m) = swB n m := rfl

theorem dSumAsked_any (n m : Int) (w : World) :
    Calls Tryd.prog 23 #[.int .i64 n, .int .i64 m] w fun e w' => e = .returned (.bool (swB n m)) ∧ w = w' := by
  have C0 := Lib.hid (fun w => l1In_sp n 0 8 w)
  have C1 := Lib.hid (fun w => l1In_sp m (-100) 100 w)
  have hE := Lib.hid (swB_and n m)
  generalize swB n m = X at *
  generalize spB (-100) 100 m = B at *
  cases h0 : spB 0 8 n
  · rw [h0] at C0 hE
    go_enter Tryd.func23, Tryd.ntmps23
    go_wp2_with fail
    refine (C0.out _).mono ?_
    rintro e1 w1 ⟨rfl, rfl⟩
    go_wp2_with fail
    go_ret
    exact ⟨ret_bool (by rw [← hE.out]; rfl), rfl⟩
  · rw [h0] at C0 hE
    go_enter Tryd.func23, Tryd.ntmps23
    go_wp2_with fail
    refine (C0.out _).mono ?_
    rintro e1 w1 ⟨rfl, rfl⟩
    go_wp2_with fail
    refine (C1.out _).mono ?_
    rintro e2 w2 ⟨rfl, rfl⟩
    go_wp2_with fail
    go_ret
    exact ⟨ret_bool (by rw [← hE.out]; rfl), rfl⟩

set_option maxRecDepth 100000 in
set_option maxHeartbeats 4000000 in
theorem sumWaysP_any (n m : Int) (w : World) (hg0 : SpanAt w 0 0 8) (hg1 : SpanAt w 1 (-100) 100) :
    Calls Tryd.prog 6 #[.int .i64 n, .int .i64 m] w fun e w' => e = .returned (ib (swB n m) (sumN n m)) ∧ Kp w w' := by
  have C0 := Lib.hid (fun w => has_any 0 8 n w)
  have C1 := Lib.hid (fun w => has_any (-100) 100 m w)
  cases h0 : spB 0 8 n
  · rw [h0] at C0
    have hO : swB n m = false := by simp [swB, h0]
    rw [hO]
    go_enter Tryd.func6, Tryd.ntmps6
    obtain ⟨b0, c0⟩ := id hg0
    go_wp2_with fail
    refine (C0.out _).mono ?_
    rintro e1 w1 ⟨rfl, k1⟩
    have K1 := k1
    go_wp2_with fail
    go_ret2
    exact ⟨rfl, K1⟩
  · rw [h0] at C0
    cases h1 : spB (-100) 100 m
    · rw [h1] at C1
      have hO : swB n m = false := by simp [swB, h0, h1]
      rw [hO]
      go_enter Tryd.func6, Tryd.ntmps6
      obtain ⟨b0, c0⟩ := id hg0
      go_wp2_with fail
      refine (C0.out _).mono ?_
      rintro e1 w1 ⟨rfl, k1⟩
      have K1 := k1
      obtain ⟨b1, c1⟩ := K1.two hg1
      go_wp2_with fail
      refine (C1.out _).mono ?_
      rintro e2 w2 ⟨rfl, k2⟩
      have K2 := K1.trans k2
      go_wp2_with fail
      go_ret2
      exact ⟨rfl, K2⟩
    · rw [h1] at C1
      have hO : swB n m = true := by simp [swB, h0, h1]
      rw [hO]
      clear hO
      have hn := sp_bd h0
      have hm := sp_bd h1
      obtain ⟨N, rfl⟩ : ∃ N : Nat, n = N := ⟨n.toNat, by omega⟩
      have hS : sumN N m = if m < 0 then 0 else getI (waysL N) m.toNat := by unfold sumN; rw [Int.toNat_natCast]
      rw [hS]
      clear hS
      have CW := Lib.hid (fun w => waysOfSums_any N w (by omega))
      have hlen := waysL_len N
      have HLN := Lib.hid (show (waysL N).length ≤ 49 by omega)
      generalize waysL N = L at *
      clear hlen
      by_cases hm0 : m < 0
      · rw [if_pos hm0]
        go_enter Tryd.func6, Tryd.ntmps6
        obtain ⟨b0, c0⟩ := id hg0
        go_wp2_with fail
        refine (C0.out _).mono ?_
        rintro e1 w1 ⟨rfl, k1⟩
        have K1 := k1
        obtain ⟨b1, c1⟩ := K1.two hg1
        go_wp2_with fail
        refine (C1.out _).mono ?_
        rintro e2 w2 ⟨rfl, k2⟩
        have K2 := K1.trans k2
        go_wp2_with fail
        refine (CW.out _).mono ?_
        rintro e9 w9 ⟨v9, rfl, o9, k9⟩
        obtain ⟨A9, c9, rfl, hA⟩ := o9.rd
        clear hA o9
        go_wp2_with fail
        go_ret2
        exact ⟨rfl, K2.trans k9⟩
      · rw [if_neg hm0]
        obtain ⟨M, rfl⟩ : ∃ M : Nat, m = M := ⟨m.toNat, by omega⟩
        rw [Int.toNat_natCast]
        by_cases hM : M < L.length
        · have hM' : (M : Int) < (L.length : Int) := by omega
          go_enter Tryd.func6, Tryd.ntmps6
          obtain ⟨b0, c0⟩ := id hg0
          go_wp2_with fail
          refine (C0.out _).mono ?_
          rintro e1 w1 ⟨rfl, k1⟩
          have K1 := k1
          obtain ⟨b1, c1⟩ := K1.two hg1
          go_wp2_with fail
          refine (C1.out _).mono ?_
          rintro e2 w2 ⟨rfl, k2⟩
          have K2 := K1.trans k2
          go_wp2_with fail
          refine (CW.out _).mono ?_
          rintro e9 w9 ⟨v9, rfl, o9, k9⟩
          obtain ⟨A9, c9, rfl, hA⟩ := o9.rd
          obtain ⟨g, off, rfl, hc⟩ := hA (by omega)
          have a0 := hc M _ (getI_some hM)
          clear hA hc
          go_wp2_with fail
          go_ret2
          exact ⟨rfl, K2.trans k9⟩
        · have hM' : (L.length : Int) ≤ (M : Int) := by omega
          rw [getI_none (by omega)]
          go_enter Tryd.func6, Tryd.ntmps6
          obtain ⟨b0, c0⟩ := id hg0
          go_wp2_with fail
          refine (C0.out _).mono ?_
          rintro e1 w1 ⟨rfl, k1⟩
          have K1 := k1
          obtain ⟨b1, c1⟩ := K1.two hg1
          go_wp2_with fail
          refine (C1.out _).mono ?_
          rintro e2 w2 ⟨rfl, k2⟩
          have K2 := K1.trans k2
          go_wp2_with fail
          refine (CW.out _).mono ?_
          rintro e9 w9 ⟨v9, rfl, o9, k9⟩
          obtain ⟨A9, c9, rfl, hA⟩ := o9.rd
          clear hA o9
          go_wp2_with fail
          go_ret2
          exact ⟨rfl, K2.trans k9⟩

set_option maxRecDepth 100000 in
set_option maxHeartbeats 4000000 in
theorem waysAtLeastP_any (n m : Int) (w : World) (hg0 : SpanAt w 0 0 8) (hg1 : SpanAt w 1 (-100) 100) :
    Calls Tryd.prog 8 #[.int .i64 n, .int .i64 m] w fun e w' => e = .returned (ib (swB n m) (atS (waysL n.toNat) m (waysL n.toNat).length)) ∧ Kp w w' := by
  have C0 := Lib.hid (fun w => has_any 0 8 n w)
  have C1 := Lib.hid (fun w => has_any (-100) 100 m w)
  cases h0 : spB 0 8 n
  · rw [h0] at C0
    have hO : swB n m = false := by simp [swB, h0]
    rw [hO]
    go_enter Tryd.func8, Tryd.ntmps8
    obtain ⟨b0, c0⟩ := id hg0
    go_wp2_with fail
    refine (C0.out _).mono ?_
    rintro e1 w1 ⟨rfl, k1⟩
    have K1 := k1
    go_wp2_with fail
    go_ret2
    exact ⟨rfl, K1⟩
  · rw [h0] at C0
    cases h1 : spB (-100) 100 m
    · rw [h1] at C1
      have hO : swB n m = false := by simp [swB, h0, h1]
      rw [hO]
      go_enter Tryd.func8, Tryd.ntmps8
      obtain ⟨b0, c0⟩ := id hg0
      go_wp2_with fail
      refine (C0.out _).mono ?_
      rintro e1 w1 ⟨rfl, k1⟩
      have K1 := k1
      obtain ⟨b1, c1⟩ := K1.two hg1
      go_wp2_with fail
      refine (C1.out _).mono ?_
      rintro e2 w2 ⟨rfl, k2⟩
      have K2 := K1.trans k2
      go_wp2_with fail
      go_ret2
      exact ⟨rfl, K2⟩
    · rw [h1] at C1
      have hO : swB n m = true := by simp [swB, h0, h1]
      rw [hO]
      clear hO
      have hn := sp_bd h0
      have hm := sp_bd h1
      obtain ⟨N, rfl⟩ : ∃ N : Nat, n = N := ⟨n.toNat, by omega⟩
      rw [Int.toNat_natCast]
      have CW := Lib.hid (fun w => waysOfSums_any N w (by omega))
      have hlen := waysL_len N
      have hNB := Lib.hid (ways_bd (n := N) (by omega))
      generalize waysL N = L at *
      obtain ⟨q0, hq0⟩ : ∃ q, L.length = q := ⟨_, rfl⟩
      rw [hq0]
      have HQ := Lib.hid hq0
      have hq49 : q0 ≤ 49 := by omega
      clear hlen hq0
      go_enter Tryd.func8, Tryd.ntmps8
      obtain ⟨b0, c0⟩ := id hg0
      go_wp2_with fail
      refine (C0.out _).mono ?_
      rintro e1 w1 ⟨rfl, k1⟩
      have K1 := k1
      obtain ⟨b1, c1⟩ := K1.two hg1
      go_wp2_with fail
      refine (C1.out _).mono ?_
      rintro e2 w2 ⟨rfl, k2⟩
      have K2 := K1.trans k2
      go_wp2_with fail
      refine (CW.out _).mono ?_
      rintro e9 w9 ⟨v9, rfl, o9, k9⟩
      obtain ⟨A9, c9, rfl, hA⟩ := o9.rd
      rw [HQ.out] at hA ⊢
      have HA := Lib.hid hA
      clear hA o9
      go_wp2_with fail
      go_loop [6, 22] (fun t iv => ∃ k : Nat, k ≤ q0 ∧ iv = .int .i64 k ∧ t = .int .i64 (atS L m k)) (fun _ iv => q0 - (intOf iv).toNat)
      case atStart => exact ⟨0, by omega, rfl, rfl⟩
      case round =>
        obtain ⟨k, hk, rfl, rfl⟩ := hrel
        by_cases hlt : k < q0
        · have hlt' : (k : Int) < q0 := by omega
          obtain ⟨g, off, rfl, hc⟩ := HA.out (by omega)
          have a0 := hc k _ (getI_some (by rw [HQ.out]; exact hlt))
          have hb := atS_bd (m := m) (by omega) hNB.out k
          have hy := hNB.out.get (by omega) k
          have hS := Lib.hid (show atS L m (k + 1) = if m ≤ (k : Int) then atS L m k + getI L k else atS L m k from rfl)
          generalize atS L m k = T at *
          generalize getI L k = y at *
          have ey : IntKind.i64.wrap (T + y) = T + y := IntWalk.i64_in _ (by omega)
          clear hc
          by_cases hmk : m ≤ (k : Int)
          · have hS2 := Lib.hid (show atS L m (k + 1) = T + y by rw [hS.out, if_pos hmk])
            go_wp2_with fail
            go_round
            case rel => exact ⟨k + 1, by omega, by go_num, by rw [hS2.out]⟩
            case measure => simp [intOf]; omega
          · have hS2 := Lib.hid (show atS L m (k + 1) = T by rw [hS.out, if_neg hmk])
            go_wp2_with fail
            go_round
            case rel => exact ⟨k + 1, by omega, by go_num, by rw [hS2.out]⟩
            case measure => simp [intOf]; omega
        · obtain rfl : k = q0 := by omega
          go_wp2_with fail
          go_ret2
          exact ⟨rfl, K2.trans k9⟩

set_option maxRecDepth 100000 in
set_option maxHeartbeats 4000000 in
theorem sumWaysS_any (n m : Int) (w : World) :
    Calls Tryd.prog 7 #[.int .i64 n, .int .i64 m] w fun e w' => e = .returned (ib (swB n m) (sumN n m)) ∧ Kp w w' := by
  have C0 := Lib.hid (fun w => dSumAsked_any n m w)
  cases h0 : swB n m
  · rw [h0] at C0
    go_enter Tryd.func7, Tryd.ntmps7
    go_wp2_with fail
    refine (C0.out _).mono ?_
    rintro e1 w1 ⟨rfl, rfl⟩
    go_wp2_with fail
    go_ret2
    exact ⟨rfl, Kp.refl _⟩
  · rw [h0] at C0
    have hh : spB 0 8 n = true ∧ spB (-100) 100 m = true := by simpa [swB] using h0
    have hn := sp_bd hh.1
    have hm := sp_bd hh.2
    clear hh
    obtain ⟨N, rfl⟩ : ∃ N : Nat, n = N := ⟨n.toNat, by omega⟩
    have hS : sumN N m = if m < 0 then 0 else getI (waysL N) m.toNat := by unfold sumN; rw [Int.toNat_natCast]
    rw [hS]
    clear hS
    have CW := Lib.hid (fun w => dWays_any N w (by omega))
    have hlen := waysL_len N
    have HLN := Lib.hid (show (waysL N).length ≤ 49 by omega)
    generalize waysL N = L at *
    clear hlen
    by_cases hm0 : m < 0
    · rw [if_pos hm0]
      go_enter Tryd.func7, Tryd.ntmps7
      go_wp2_with fail
      refine (C0.out _).mono ?_
      rintro e1 w1 ⟨rfl, rfl⟩
      go_wp2_with fail
      refine (CW.out _).mono ?_
      rintro e9 w9 ⟨v9, rfl, o9, k9⟩
      obtain ⟨A9, c9, rfl, hA⟩ := o9.rd
      have hl0 := HLN.out
      have eL : IntKind.i64.wrap ((L.length : Int) - 1) = (L.length : Int) - 1 := IntWalk.i64_in _ (by omega)
      clear hA o9
      have CB := Lib.hid (fun w => l1In_sp m 0 ((L.length : Int) - 1) w)
      have hb : spB 0 ((L.length : Int) - 1) m = false := by simp [spB]; omega
      rw [hb] at CB
      clear hb
      go_wp2_with fail
      refine (CB.out _).mono ?_
      rintro e8 w8 ⟨rfl, rfl⟩
      go_wp2_with fail
      go_ret2
      exact ⟨rfl, k9⟩
    · rw [if_neg hm0]
      obtain ⟨M, rfl⟩ : ∃ M : Nat, m = M := ⟨m.toNat, by omega⟩
      rw [Int.toNat_natCast]
      by_cases hM : M < L.length
      · have hM' : (M : Int) < (L.length : Int) := by omega
        go_enter Tryd.func7, Tryd.ntmps7
        go_wp2_with fail
        refine (C0.out _).mono ?_
        rintro e1 w1 ⟨rfl, rfl⟩
        go_wp2_with fail
        refine (CW.out _).mono ?_
        rintro e9 w9 ⟨v9, rfl, o9, k9⟩
        obtain ⟨A9, c9, rfl, hA⟩ := o9.rd
        have hl0 := HLN.out
        have eL : IntKind.i64.wrap ((L.length : Int) - 1) = (L.length : Int) - 1 := IntWalk.i64_in _ (by omega)
        obtain ⟨g, off, rfl, hc⟩ := hA (by omega)
        have a0 := hc M _ (getI_some hM)
        clear hA hc
        have CB := Lib.hid (fun w => l1In_sp (M : Int) 0 ((L.length : Int) - 1) w)
        have hb : spB 0 ((L.length : Int) - 1) (M : Int) = true := by simp [spB]; omega
        rw [hb] at CB
        clear hb
        go_wp2_with fail
        refine (CB.out _).mono ?_
        rintro e8 w8 ⟨rfl, rfl⟩
        go_wp2_with fail
        go_ret2
        exact ⟨rfl, k9⟩
      · have hM' : (L.length : Int) ≤ (M : Int) := by omega
        rw [getI_none (by omega)]
        go_enter Tryd.func7, Tryd.ntmps7
        go_wp2_with fail
        refine (C0.out _).mono ?_
        rintro e1 w1 ⟨rfl, rfl⟩
        go_wp2_with fail
        refine (CW.out _).mono ?_
        rintro e9 w9 ⟨v9, rfl, o9, k9⟩
        obtain ⟨A9, c9, rfl, hA⟩ := o9.rd
        have hl0 := HLN.out
        have eL : IntKind.i64.wrap ((L.length : Int) - 1) = (L.length : Int) - 1 := IntWalk.i64_in _ (by omega)
        clear hA o9
        have CB := Lib.hid (fun w => l1In_sp (M : Int) 0 ((L.length : Int) - 1) w)
        have hb : spB 0 ((L.length : Int) - 1) (M : Int) = false := by simp [spB]; omega
        rw [hb] at CB
        clear hb
        go_wp2_with fail
        refine (CB.out _).mono ?_
        rintro e8 w8 ⟨rfl, rfl⟩
        go_wp2_with fail
        go_ret2
        exact ⟨rfl, k9⟩

set_option maxRecDepth 100000 in
set_option maxHeartbeats 4000000 in
theorem waysAtLeastS_any (n m : Int) (w : World) :
    Calls Tryd.prog 9 #[.int .i64 n, .int .i64 m] w fun e w' => e = .returned (ib (swB n m) (atS (waysL n.toNat) m (waysL n.toNat).length)) ∧ Kp w w' := by
  have C0 := Lib.hid (fun w => dSumAsked_any n m w)
  cases h0 : swB n m
  · rw [h0] at C0
    go_enter Tryd.func9, Tryd.ntmps9
    go_wp2_with fail
    refine (C0.out _).mono ?_
    rintro e1 w1 ⟨rfl, rfl⟩
    go_wp2_with fail
    go_ret2
    exact ⟨rfl, Kp.refl _⟩
  · rw [h0] at C0
    have hh : spB 0 8 n = true ∧ spB (-100) 100 m = true := by simpa [swB] using h0
    have hn := sp_bd hh.1
    have hm := sp_bd hh.2
    clear hh
    obtain ⟨N, rfl⟩ : ∃ N : Nat, n = N := ⟨n.toNat, by omega⟩
    rw [Int.toNat_natCast]
    have CW := Lib.hid (fun w => dWays_any N w (by omega))
    have hlen := waysL_len N
    have hNB := Lib.hid (ways_bd (n := N) (by omega))
    generalize waysL N = L at *
    obtain ⟨q0, hq0⟩ : ∃ q, L.length = q := ⟨_, rfl⟩
    rw [hq0]
    have HQ := Lib.hid hq0
    have hq49 : q0 ≤ 49 := by omega
    clear hlen hq0
    go_enter Tryd.func9, Tryd.ntmps9
    go_wp2_with fail
    refine (C0.out _).mono ?_
    rintro e1 w1 ⟨rfl, rfl⟩
    go_wp2_with fail
    refine (CW.out _).mono ?_
    rintro e9 w9 ⟨v9, rfl, o9, k9⟩
    obtain ⟨A9, c9, rfl, hA⟩ := o9.rd
    rw [HQ.out] at hA ⊢
    have HA := Lib.hid hA
    clear hA o9
    go_wp2_with fail
    go_loop [6, 16] (fun t iv => ∃ k : Nat, k ≤ q0 ∧ iv = .int .i64 k ∧ t = .int .i64 (atS L m k)) (fun _ iv => q0 - (intOf iv).toNat)
    case atStart => exact ⟨0, by omega, rfl, rfl⟩
    case round =>
      obtain ⟨k, hk, rfl, rfl⟩ := hrel
      by_cases hlt : k < q0
      · have hlt' : (k : Int) < q0 := by omega
        obtain ⟨g, off, rfl, hc⟩ := HA.out (by omega)
        have a0 := hc k _ (getI_some (by rw [HQ.out]; exact hlt))
        have hb := atS_bd (m := m) (by omega) hNB.out k
        have hy := hNB.out.get (by omega) k
        have hS := Lib.hid (show atS L m (k + 1) = if m ≤ (k : Int) then atS L m k + getI L k else atS L m k from rfl)
        generalize atS L m k = T at *
        generalize getI L k = y at *
        have ey : IntKind.i64.wrap (T + y) = T + y := IntWalk.i64_in _ (by omega)
        clear hc
        by_cases hmk : m ≤ (k : Int)
        · have hS2 := Lib.hid (show atS L m (k + 1) = T + y by rw [hS.out, if_pos hmk])
          go_wp2_with fail
          go_round
          case rel => exact ⟨k + 1, by omega, by go_num, by rw [hS2.out]⟩
          case measure => simp [intOf]; omega
        · have hS2 := Lib.hid (show atS L m (k + 1) = T by rw [hS.out, if_neg hmk])
          go_wp2_with fail
          go_round
          case rel => exact ⟨k + 1, by omega, by go_num, by rw [hS2.out]⟩
          case measure => simp [intOf]; omega
      · obtain rfl : k = q0 := by omega
        go_wp2_with fail
        go_ret2
        exact ⟨rfl, k9⟩

end Go.Proofs.YtmhkjcgdjoeldaaDoor
