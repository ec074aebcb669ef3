/-
  Dice and numbers below another of a seed by the reference; the mix of a list by both sides. Nothing that was there is changed.
-/
import Derived.Test.YtajidjckpjdebaaDoorDiK
namespace Go.Proofs.YtajidjckpjdebaaDoor
open Go.RowKit

theorem dSeed_any (s : Int) (w : World) :
    Calls Tryd.prog 29 #[.int .i64 s] w fun e w' => e = .returned (.bool (seedB s)) ∧ w = w' := by
  have C := Lib.hid (l1In_sp s 0 4611686016279904236 w)
  have hE := Lib.hid (show spB 0 4611686016279904236 s = seedB s from rfl)
  generalize seedB s = X at *
  generalize spB 0 4611686016279904236 s = Y at *
  go_enter Tryd.func29, Tryd.ntmps29
  go_wp2_with fail
  refine C.out.mono ?_
  rintro e1 w1 ⟨rfl, rfl⟩
  go_wp2_with fail
  go_ret
  exact ⟨ret_bool hE.out, rfl⟩

theorem dAsked_any (s i : Int) (w : World) :
    Calls Tryd.prog 25 #[.int .i64 s, .int .i64 i] w fun e w' => e = .returned (.bool (dieB s i)) ∧ w = w' := by
  have C0 := Lib.hid (fun w => dSeed_any s w)
  have C1 := Lib.hid (fun w => l1In_sp i 0 1000000 w)
  have hE := Lib.hid (show (seedB s && spB 0 1000000 i) = dieB s i from rfl)
  generalize dieB s i = X at *
  generalize spB 0 1000000 i = B at *
  cases h0 : seedB s
  · rw [h0] at C0 hE
    go_enter Tryd.func25, Tryd.ntmps25
    go_wp2_with fail
    refine (C0.out _).mono ?_
    rintro e1 w1 ⟨rfl, rfl⟩
    go_wp2_with fail
    go_ret
    exact ⟨ret_bool (by rw [← hE.out]; rfl), rfl⟩
  · rw [h0] at C0 hE
    go_enter Tryd.func25, Tryd.ntmps25
    go_wp2_with fail
    refine (C0.out _).mono ?_
    rintro e1 w1 ⟨rfl, rfl⟩
    go_wp2_with fail
    refine (C1.out _).mono ?_
    rintro e2 w2 ⟨rfl, rfl⟩
    go_wp2_with fail
    go_ret
    exact ⟨ret_bool (by rw [← hE.out]; rfl), rfl⟩

theorem belX (s i n : Int) : belB s i n = (dieB s i && spB 1 1000000 n) := by simp [belB, dieB, Bool.and_assoc]
theorem dicX (s i n : Int) : dicB s i n = (dieB s i && (spB 0 8 n && decide (i + n ≤ 1000001))) := by simp [dicB, dieB, Bool.and_assoc]

set_option maxRecDepth 100000 in
set_option maxHeartbeats 4000000 in
theorem numberBelowS_any (s i n : Int) (w : World) :
    Calls Tryd.prog 15 #[.int .i64 s, .int .i64 i, .int .i64 n] w fun e w' => e = .returned (ib (belB s i n) (belN s i n)) ∧ Kp w w' := by
  have C0 := Lib.hid (fun w => dAsked_any s i w)
  have C1 := Lib.hid (fun w => l1In_sp n 1 1000000 w)
  cases h0 : dieB s i
  · rw [h0] at C0
    have hO : belB s i n = false := by simp [belX, h0]
    rw [hO]
    go_enter Tryd.func15, Tryd.ntmps15
    go_wp2_with fail
    refine (C0.out _).mono ?_
    rintro e1 w1 ⟨rfl, rfl⟩
    go_wp2_with fail
    go_ret2
    exact ⟨rfl, Kp.refl _⟩
  · rw [h0] at C0
    cases h1 : spB 1 1000000 n
    · rw [h1] at C1
      have hO : belB s i n = false := by simp [belX, h0, h1]
      rw [hO]
      go_enter Tryd.func15, Tryd.ntmps15
      go_wp2_with fail
      refine (C0.out _).mono ?_
      rintro e1 w1 ⟨rfl, rfl⟩
      go_wp2_with fail
      refine (C1.out _).mono ?_
      rintro e2 w2 ⟨rfl, rfl⟩
      go_wp2_with fail
      go_ret2
      exact ⟨rfl, Kp.refl _⟩
    · rw [h1] at C1
      have hn := sp_bd h1
      have hO : belB s i n = true := by simp [belX, h0, h1]
      rw [hO]
      clear hO
      have CD := Lib.hid (fun w => dBelow_any s i n w hn.1 hn.2)
      go_enter Tryd.func15, Tryd.ntmps15
      go_wp2_with fail
      refine (C0.out _).mono ?_
      rintro e1 w1 ⟨rfl, rfl⟩
      go_wp2_with fail
      refine (C1.out _).mono ?_
      rintro e2 w2 ⟨rfl, rfl⟩
      go_wp2_with fail
      refine (CD.out _).mono ?_
      rintro e9 w9 ⟨rfl, k9⟩
      go_wp2_with fail
      go_ret2
      exact ⟨rfl, k9⟩

set_option maxRecDepth 100000 in
set_option maxHeartbeats 4000000 in
theorem diceFromS_any (s i n : Int) (w : World) :
    Calls Tryd.prog 7 #[.int .i64 s, .int .i64 i, .int .i64 n] w fun e w' => ListPostI (dicB s i n) (diceL s i n.toNat) w e w' := by
  have C0 := Lib.hid (fun w => dAsked_any s i w)
  have C1 := Lib.hid (fun w => l1In_sp n 0 8 w)
  cases h0 : dieB s i
  · rw [h0] at C0
    have hO : dicB s i n = false := by simp [dicX, h0]
    rw [hO]
    go_enter Tryd.func7, Tryd.ntmps7
    go_wp2_with fail
    refine (C0.out _).mono ?_
    rintro e1 w1 ⟨rfl, rfl⟩
    go_wp2_with fail
    go_ret2
    exact ListPostI.no (Kp.refl _)
  · rw [h0] at C0
    cases h1 : spB 0 8 n
    · rw [h1] at C1
      have hO : dicB s i n = false := by simp [dicX, h0, h1]
      rw [hO]
      go_enter Tryd.func7, Tryd.ntmps7
      go_wp2_with fail
      refine (C0.out _).mono ?_
      rintro e1 w1 ⟨rfl, rfl⟩
      go_wp2_with fail
      refine (C1.out _).mono ?_
      rintro e2 w2 ⟨rfl, rfl⟩
      go_wp2_with fail
      go_ret2
      exact ListPostI.no (Kp.refl _)
    · rw [h1] at C1
      have hn := sp_bd h1
      have hi : numB i = true := by simp only [dieB, Bool.and_eq_true] at h0; exact h0.2
      have hi := sp_bd hi
      have ew : IntKind.i64.wrap (i + n) = i + n := IntWalk.i64_in _ (by omega)
      by_cases h3 : i + n ≤ 1000001
      · have hO : dicB s i n = true := by simp [dicX, h0, h1, h3]
        rw [hO]
        clear hO
        obtain ⟨N, rfl⟩ : ∃ N : Nat, n = N := ⟨n.toNat, by omega⟩
        rw [Int.toNat_natCast]
        obtain ⟨j0, hj0, hz0, hs0, hb0⟩ := info_parts infoInt
        have CD := Lib.hid (fun x w => dDie_any s x w)
        go_enter Tryd.func7, Tryd.ntmps7
        go_wp2_with fail
        refine (C0.out _).mono ?_
        rintro e1 w1 ⟨rfl, rfl⟩
        go_wp2_with fail
        refine (C1.out _).mono ?_
        rintro e2 w2 ⟨rfl, rfl⟩
        go_wp2_with fail
        go_loopw [8, 9] (fun v iv wr => ∃ k : Nat, k ≤ N ∧ iv = .int .i64 k ∧ Hid (OwnI wr w.heap.size v (diceL s i k)) ∧ Kp w wr) (fun _ iv _ => N - (intOf iv).toNat)
        case atStart => exact ⟨0, by omega, rfl, Lib.hid (OwnI.nil _ _), Kp.refl _⟩
        case round =>
          obtain ⟨k, hk, rfl, hO, kr⟩ := hrel
          by_cases hlt : k < N
          · have hlt' : (k : Int) < N := by omega
            have ew : IntKind.i64.wrap (i + (k : Int)) = i + (k : Int) := IntWalk.i64_in _ (by omega)
            have HS := Lib.hid (show diceL s i (k + 1) = diceL s i k ++ [dieN s (i + k)] from rfl)
            have C9 := Lib.hid (CD.out (i + k))
            have hln := Lib.hid (diceL_len s i k)
            generalize diceL s i k = L at hO HS hln
            generalize dieN s (i + k) = D at C9 HS
            go_wp2_with fail
            refine (C9.out _).mono ?_
            rintro e w1 ⟨rfl, k1⟩
            have HO1 := Lib.hid (hO.out.keep k1)
            have K1 := kr.trans k1
            have hz := K1.size
            clear hO k1 kr
            go_wp2_with (at_builtin; refine wpList_append_own_at _ rfl (.tmp 30) (.tmp 36) 26 rfl w.heap.size 3 j0 (.int .i64 0) 1 8 Tryd.underlying26 hj0 hz0 hs0 hb0 rfl (by decide) _ L.length (cellsI L) rfl (World.ownsRow.alloc HO1.out _) ⟨w1.heap.size, 0, none⟩ 1 1 [.int .i64 D] rfl rfl (one_cell _ _ _) (by simp [Value.oneCell']) (by have := hln.out; simp only [maxLen]; omega) (by have := hln.out; omega) (by simp; omega) ?_; intro v' w3 hown2 hgrow2 hnil2 hat2; clear hnil2 hat2; have O3 : Hid (OwnI w3 w.heap.size v' (diceL s i (k + 1))) := Lib.hid (by rw [HS.out]; exact OwnI.snoc hown2); have K3 : Kp w w3 := (K1.alloc _).grown hgrow2 (fun k e => (World.ownsRow.lt HO1.out k e).1); clear hown2 hgrow2)
            go_roundw
            case rel => exact ⟨k + 1, by omega, by go_num, O3, K3⟩
            case measure => simp [intOf]; omega
          · obtain rfl : k = N := by omega
            go_wp2_with fail
            go_ret2
            exact ⟨_, rfl, hO.out, kr⟩
      · have hO : dicB s i n = false := by simp [dicB, h3]
        rw [hO]
        go_enter Tryd.func7, Tryd.ntmps7
        go_wp2_with fail
        refine (C0.out _).mono ?_
        rintro e1 w1 ⟨rfl, rfl⟩
        go_wp2_with fail
        refine (C1.out _).mono ?_
        rintro e2 w2 ⟨rfl, rfl⟩
        go_wp2_with fail
        go_ret2
        exact ListPostI.no (Kp.refl _)

def mixB (l : List Int) : Bool := decide (l.length ≤ 200)
end Go.Proofs.YtajidjckpjdebaaDoor
