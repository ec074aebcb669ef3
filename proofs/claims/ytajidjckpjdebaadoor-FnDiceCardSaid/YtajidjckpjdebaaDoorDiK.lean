/-
  Dice and numbers below another of a seed: both sides. Nothing that was there is changed.
-/
import Derived.Test.YtajidjckpjdebaaDoorDiJ
import Derived.Test.YtajidjckpjdebaaDoorPutI
namespace Go.Proofs.YtajidjckpjdebaaDoor
open Go.RowKit

def seedB (s : Int) : Bool := spB 0 4611686016279904236 s
def numB (i : Int) : Bool := spB 0 1000000 i
def dieB (s i : Int) : Bool := seedB s && numB i
def dicB (s i n : Int) : Bool := seedB s && (numB i && (spB 0 8 n && decide (i + n ≤ 1000001)))
def belB (s i n : Int) : Bool := seedB s && (numB i && spB 1 1000000 n)
theorem sp_bd {lo hi n : Int} (h : spB lo hi n = true) : lo ≤ n ∧ n ≤ hi := by simpa [spB] using h
def diceL (s i : Int) : Nat → List Int
  | 0 => []
  | n + 1 => diceL s i n ++ [dieN s (i + n)]
theorem diceL_len (s i : Int) : ∀ n, (diceL s i n).length = n
  | 0 => rfl
  | n + 1 => by rw [diceL, List.length_append, diceL_len s i n]; rfl
theorem diceL_get (s i : Int) : ∀ n k, k < n → (diceL s i n)[k]? = some (dieN s (i + k))
  | 0, k, h => absurd h (by omega)
  | n + 1, k, h => by
    rw [diceL]
    by_cases hk : k < n
    · rw [List.getElem?_append_left (by rw [diceL_len]; omega), diceL_get s i n k hk]
    · obtain rfl : k = n := by omega
      rw [List.getElem?_append_right (by rw [diceL_len]; omega), diceL_len]
      simp
theorem mkInts0 (n : Nat) (hn : n ≤ 1048576) (w : World) :
    (Instr.makeSlice 26 (.int .i64 0) (.int .i64 (n : Int))).run Tryd.prog w = .ok (.slice (some ⟨w.heap.size, 0, none⟩) 0 n) (w.alloc (.cells (madeCells #[.int .i64 0] n) 3)) := by
  obtain ⟨i, hi, hz, hs, hb⟩ := info_parts infoInt
  have hr := run_make (P := Tryd.prog) w 26 3 i (.int .i64 0) Tryd.underlying26 hi hz .i64 .i64 0 (n : Int) (Int.le_refl _) (by omega) (by rw [hb]; omega) (by omega)
  rw [hs, Int.toNat_natCast, Nat.mul_one] at hr
  exact hr
theorem ownI_made0 (w : World) (base n : Nat) (hb : base ≤ w.heap.size) (hn : n ≤ 1048576) : OwnI (w.alloc (.cells (madeCells #[.int .i64 0] n) 3)) base (.slice (some ⟨w.heap.size, 0, none⟩) 0 n) [] := by
  unfold OwnI
  exact World.ownsRow_made w _ n hb (by simp only [maxLen]; omega) (by rw [size_madeCells, Nat.mul_one])

set_option maxRecDepth 100000 in
set_option maxHeartbeats 4000000 in
theorem diceOf_any (s i : Int) (N : Nat) (w : World) (hN : N ≤ 600) (i0 : 0 ≤ i) (i1 : i ≤ 1000001) :
    Calls Tryd.prog 24 #[.int .i64 s, .int .i64 i, .int .i64 (N : Int)] w fun e w' => ∃ v, e = .returned v ∧ OwnI w' w.heap.size v (diceL s i N) ∧ Kp w w' := by
  obtain ⟨j0, hj0, hz0, hs0, hb0⟩ := info_parts infoInt
  have hmk := mkInts0 N (by omega) w
  have own0 : Hid (OwnI (w.alloc (.cells (madeCells #[.int .i64 0] N) 3)) w.heap.size (.slice (some ⟨w.heap.size, 0, none⟩) 0 N) (diceL s i 0)) := Lib.hid (ownI_made0 w w.heap.size N (Nat.le_refl _) (by omega))
  have CD := Lib.hid (fun x w => dieOf_any s x w)
  have K0 : Kp w (w.alloc (.cells (madeCells #[.int .i64 0] N) 3)) := (Kp.refl _).alloc _
  go_enter Tryd.func24, Tryd.ntmps24
  go_wp2_with fail
  go_loopw [7, 12] (fun v iv wr => ∃ k : Nat, k ≤ N ∧ iv = .int .i64 k ∧ Hid (OwnI wr w.heap.size v (diceL s i k)) ∧ Kp w wr) (fun _ iv _ => N - (intOf iv).toNat)
  case atStart => exact ⟨0, by omega, rfl, own0, K0⟩
  case round =>
    clear own0 K0 hmk
    obtain ⟨k, hk, rfl, hO, kr⟩ := hrel
    by_cases hlt : k < N
    · have hlt' : (k : Int) < N := by omega
      have ew : IntKind.i64.wrap (i + (k : Int)) = i + (k : Int) := IntWalk.i64_in _ (by omega)
      have HS := Lib.hid (show diceL s i (k + 1) = diceL s i k ++ [dieN s (i + k)] from rfl)
      have C1 := Lib.hid (CD.out (i + k))
      have hln := Lib.hid (diceL_len s i k)
      generalize diceL s i k = L at hO HS hln
      generalize dieN s (i + k) = D at C1 HS
      go_wp2_with fail
      refine (C1.out _).mono ?_
      rintro e w1 ⟨rfl, k1⟩
      have HO1 := Lib.hid (hO.out.keep k1)
      have K1 := kr.trans k1
      have hz := K1.size
      clear hO k1 kr
      go_wp2_with (at_builtin; refine wpList_append_own_at _ rfl (.tmp 15) (.tmp 21) 26 rfl w.heap.size 3 j0 (.int .i64 0) 1 8 Tryd.underlying26 hj0 hz0 hs0 hb0 rfl (by decide) _ L.length (cellsI L) rfl (World.ownsRow.alloc HO1.out _) ⟨w1.heap.size, 0, none⟩ 1 1 [.int .i64 D] rfl rfl (one_cell _ _ _) (by simp [Value.oneCell']) (by have := hln.out; simp only [maxLen]; omega) (by have := hln.out; omega) (by simp; omega) ?_; intro v' w3 hown2 hgrow2 hnil2 hat2; clear hnil2 hat2; have O3 : Hid (OwnI w3 w.heap.size v' (diceL s i (k + 1))) := Lib.hid (by rw [HS.out]; exact OwnI.snoc hown2); have K3 : Kp w w3 := (K1.alloc _).grown hgrow2 (fun k e => (World.ownsRow.lt HO1.out k e).1); clear hown2 hgrow2)
      go_roundw
      case rel => exact ⟨k + 1, by omega, by go_num, O3, K3⟩
      case measure => simp [intOf]; omega
    · obtain rfl : k = N := by omega
      go_wp2_with fail
      go_ret
      exact ⟨_, rfl, hO.out, kr⟩

set_option maxRecDepth 100000 in
set_option maxHeartbeats 4000000 in
theorem dieAtP_any (s i : Int) (w : World) (hg0 : SpanAt w 0 0 4611686016279904236) (hg1 : SpanAt w 1 0 1000000) :
    Calls Tryd.prog 9 #[.int .i64 s, .int .i64 i] w fun e w' => e = .returned (ib (dieB s i) (dieN s i)) ∧ Kp w w' := by
  have C0 := Lib.hid (fun w => has_any 0 4611686016279904236 s w)
  have C1 := Lib.hid (fun w => has_any 0 1000000 i w)
  cases h0 : spB 0 4611686016279904236 s
  · rw [h0] at C0
    have hO : dieB s i = false := by simp [dieB, seedB, numB, h0]
    rw [hO]
    go_enter Tryd.func9, Tryd.ntmps9
    obtain ⟨b0, c0⟩ := id hg0
    go_wp2_with fail
    refine (C0.out _).mono ?_
    rintro e1 w1 ⟨rfl, k1⟩
    have K1 := k1
    go_wp2_with fail
    go_ret2
    exact ⟨rfl, K1⟩
  · rw [h0] at C0
    cases h1 : spB 0 1000000 i
    · rw [h1] at C1
      have hO : dieB s i = false := by simp [dieB, seedB, numB, h0, h1]
      rw [hO]
      go_enter Tryd.func9, Tryd.ntmps9
      obtain ⟨b0, c0⟩ := id hg0
      go_wp2_with fail
      refine (C0.out _).mono ?_
      rintro e1 w1 ⟨rfl, k1⟩
      have K1 := k1
      obtain ⟨b1, c1⟩ := K1.two hg1
      go_wp2_with fail
      refine (C1.out _).mono ?_
      rintro e2 w2 ⟨rfl, k2⟩
      have K2 := K1.trans k2
      go_wp2_with fail
      go_ret2
      exact ⟨rfl, K2⟩
    · rw [h1] at C1
      have hO : dieB s i = true := by simp [dieB, seedB, numB, h0, h1]
      rw [hO]
      clear hO
      have CD := Lib.hid (fun w => dieOf_any s i w)
      go_enter Tryd.func9, Tryd.ntmps9
      obtain ⟨b0, c0⟩ := id hg0
      go_wp2_with fail
      refine (C0.out _).mono ?_
      rintro e1 w1 ⟨rfl, k1⟩
      have K1 := k1
      obtain ⟨b1, c1⟩ := K1.two hg1
      go_wp2_with fail
      refine (C1.out _).mono ?_
      rintro e2 w2 ⟨rfl, k2⟩
      have K2 := K1.trans k2
      go_wp2_with fail
      refine (CD.out _).mono ?_
      rintro e9 w9 ⟨rfl, k9⟩
      go_wp2_with fail
      go_ret2
      exact ⟨rfl, K2.trans k9⟩

set_option maxRecDepth 100000 in
set_option maxHeartbeats 4000000 in
theorem numberBelowP_any (s i n : Int) (w : World) (hg0 : SpanAt w 0 0 4611686016279904236) (hg1 : SpanAt w 1 0 1000000) (hg2 : SpanAt w 4 1 1000000) :
    Calls Tryd.prog 14 #[.int .i64 s, .int .i64 i, .int .i64 n] w fun e w' => e = .returned (ib (belB s i n) (belN s i n)) ∧ Kp w w' := by
  have C0 := Lib.hid (fun w => has_any 0 4611686016279904236 s w)
  have C1 := Lib.hid (fun w => has_any 0 1000000 i w)
  have C2 := Lib.hid (fun w => has_any 1 1000000 n w)
  cases h0 : spB 0 4611686016279904236 s
  · rw [h0] at C0
    have hO : belB s i n = false := by simp [belB, seedB, numB, h0]
    rw [hO]
    go_enter Tryd.func14, Tryd.ntmps14
    obtain ⟨b0, c0⟩ := id hg0
    go_wp2_with fail
    refine (C0.out _).mono ?_
    rintro e1 w1 ⟨rfl, k1⟩
    have K1 := k1
    go_wp2_with fail
    go_ret2
    exact ⟨rfl, K1⟩
  · rw [h0] at C0
    cases h1 : spB 0 1000000 i
    · rw [h1] at C1
      have hO : belB s i n = false := by simp [belB, seedB, numB, h0, h1]
      rw [hO]
      go_enter Tryd.func14, Tryd.ntmps14
      obtain ⟨b0, c0⟩ := id hg0
      go_wp2_with fail
      refine (C0.out _).mono ?_
      rintro e1 w1 ⟨rfl, k1⟩
      have K1 := k1
      obtain ⟨b1, c1⟩ := K1.two hg1
      go_wp2_with fail
      refine (C1.out _).mono ?_
      rintro e2 w2 ⟨rfl, k2⟩
      have K2 := K1.trans k2
      go_wp2_with fail
      go_ret2
      exact ⟨rfl, K2⟩
    · rw [h1] at C1
      cases h2 : spB 1 1000000 n
      · rw [h2] at C2
        have hO : belB s i n = false := by simp [belB, seedB, numB, h0, h1, h2]
        rw [hO]
        go_enter Tryd.func14, Tryd.ntmps14
        obtain ⟨b0, c0⟩ := id hg0
        go_wp2_with fail
        refine (C0.out _).mono ?_
        rintro e1 w1 ⟨rfl, k1⟩
        have K1 := k1
        obtain ⟨b1, c1⟩ := K1.two hg1
        go_wp2_with fail
        refine (C1.out _).mono ?_
        rintro e2 w2 ⟨rfl, k2⟩
        have K2 := K1.trans k2
        obtain ⟨b2, c2⟩ := K2.two hg2
        go_wp2_with fail
        refine (C2.out _).mono ?_
        rintro e3 w3 ⟨rfl, k3⟩
        have K3 := K2.trans k3
        go_wp2_with fail
        go_ret2
        exact ⟨rfl, K3⟩
      · rw [h2] at C2
        have hO : belB s i n = true := by simp [belB, seedB, numB, h0, h1, h2]
        rw [hO]
        clear hO
        have hn := sp_bd h2
        have hbd := mixL_bd [s, i, n]
        have CM := Lib.hid (fun w => mixOf_any _ [s, i, n] _ (rd3 w s i n 3) (by simp))
        have e1 := Lib.hid (show (mixL [s, i, n]).1 % n = belN s i n from rfl)
        have hd := belN_bd s i n hn.1
        have hn0 : n ≠ 0 := by omega
        generalize belN s i n = D at *
        generalize (mixL [s, i, n]).1 = a at *
        generalize (mixL [s, i, n]).2 = b at *
        go_enter Tryd.func14, Tryd.ntmps14
        obtain ⟨b0, c0⟩ := id hg0
        go_wp2_with fail
        refine (C0.out _).mono ?_
        rintro e1 w1 ⟨rfl, k1⟩
        have K1 := k1
        obtain ⟨b1, c1⟩ := K1.two hg1
        go_wp2_with fail
        refine (C1.out _).mono ?_
        rintro e2 w2 ⟨rfl, k2⟩
        have K2 := K1.trans k2
        obtain ⟨b2, c2⟩ := K2.two hg2
        go_wp2_with fail
        refine (C2.out _).mono ?_
        rintro e3 w3 ⟨rfl, k3⟩
        have K3 := K2.trans k3
        go_wp2_with fail
        refine (CM.out _).mono ?_
        rintro e9 w9 ⟨rfl, k9⟩
        have K9 := (K3.alloc (.cells #[.int .i64 s, .int .i64 i, .int .i64 n] 3)).trans k9
        have hf := fun w => fieldMix a b w
        go_wp2_with fail
        go_ret2
        exact ⟨by rw [← e1.out]; rfl, K9⟩

set_option maxRecDepth 100000 in
set_option maxHeartbeats 4000000 in
theorem diceFromP_any (s i n : Int) (w : World) (hg0 : SpanAt w 0 0 4611686016279904236) (hg1 : SpanAt w 1 0 1000000) (hg2 : SpanAt w 2 0 8) :
    Calls Tryd.prog 6 #[.int .i64 s, .int .i64 i, .int .i64 n] w fun e w' => ListPostI (dicB s i n) (diceL s i n.toNat) w e w' := by
  have C0 := Lib.hid (fun w => has_any 0 4611686016279904236 s w)
  have C1 := Lib.hid (fun w => has_any 0 1000000 i w)
  have C2 := Lib.hid (fun w => has_any 0 8 n w)
  cases h0 : spB 0 4611686016279904236 s
  · rw [h0] at C0
    have hO : dicB s i n = false := by simp [dicB, seedB, numB, h0]
    rw [hO]
    go_enter Tryd.func6, Tryd.ntmps6
    obtain ⟨b0, c0⟩ := id hg0
    go_wp2_with fail
    refine (C0.out _).mono ?_
    rintro e1 w1 ⟨rfl, k1⟩
    have K1 := k1
    go_wp2_with fail
    go_ret2
    exact ListPostI.no K1
  · rw [h0] at C0
    cases h1 : spB 0 1000000 i
    · rw [h1] at C1
      have hO : dicB s i n = false := by simp [dicB, seedB, numB, h0, h1]
      rw [hO]
      go_enter Tryd.func6, Tryd.ntmps6
      obtain ⟨b0, c0⟩ := id hg0
      go_wp2_with fail
      refine (C0.out _).mono ?_
      rintro e1 w1 ⟨rfl, k1⟩
      have K1 := k1
      obtain ⟨b1, c1⟩ := K1.two hg1
      go_wp2_with fail
      refine (C1.out _).mono ?_
      rintro e2 w2 ⟨rfl, k2⟩
      have K2 := K1.trans k2
      go_wp2_with fail
      go_ret2
      exact ListPostI.no K2
    · rw [h1] at C1
      cases h2 : spB 0 8 n
      · rw [h2] at C2
        have hO : dicB s i n = false := by simp [dicB, seedB, numB, h0, h1, h2]
        rw [hO]
        go_enter Tryd.func6, Tryd.ntmps6
        obtain ⟨b0, c0⟩ := id hg0
        go_wp2_with fail
        refine (C0.out _).mono ?_
        rintro e1 w1 ⟨rfl, k1⟩
        have K1 := k1
        obtain ⟨b1, c1⟩ := K1.two hg1
        go_wp2_with fail
        refine (C1.out _).mono ?_
        rintro e2 w2 ⟨rfl, k2⟩
        have K2 := K1.trans k2
        obtain ⟨b2, c2⟩ := K2.two hg2
        go_wp2_with fail
        refine (C2.out _).mono ?_
        rintro e3 w3 ⟨rfl, k3⟩
        have K3 := K2.trans k3
        go_wp2_with fail
        go_ret2
        exact ListPostI.no K3
      · rw [h2] at C2
        have hn := sp_bd h2
        have hi := sp_bd h1
        have ew : IntKind.i64.wrap (i + n) = i + n := IntWalk.i64_in _ (by omega)
        by_cases h3 : i + n ≤ 1000001
        · have hO : dicB s i n = true := by simp [dicB, seedB, numB, h0, h1, h2, h3]
          rw [hO]
          clear hO
          obtain ⟨N, rfl⟩ : ∃ N : Nat, n = N := ⟨n.toNat, by omega⟩
          rw [Int.toNat_natCast]
          have CD := Lib.hid (fun w => diceOf_any s i N w (by omega) hi.1 (by omega))
          generalize diceL s i N = L at *
          go_enter Tryd.func6, Tryd.ntmps6
          obtain ⟨b0, c0⟩ := id hg0
          go_wp2_with fail
          refine (C0.out _).mono ?_
          rintro e1 w1 ⟨rfl, k1⟩
          have K1 := k1
          obtain ⟨b1, c1⟩ := K1.two hg1
          go_wp2_with fail
          refine (C1.out _).mono ?_
          rintro e2 w2 ⟨rfl, k2⟩
          have K2 := K1.trans k2
          obtain ⟨b2, c2⟩ := K2.two hg2
          go_wp2_with fail
          refine (C2.out _).mono ?_
          rintro e3 w3 ⟨rfl, k3⟩
          have K3 := K2.trans k3
          go_wp2_with fail
          refine (CD.out _).mono ?_
          rintro e9 w9 ⟨v9, rfl, o9, k9⟩
          have hz := K3.size
          go_wp2_with fail
          go_ret2
          exact ⟨v9, rfl, o9.base hz, K3.trans k9⟩
        · have hO : dicB s i n = false := by simp [dicB, h3]
          rw [hO]
          go_enter Tryd.func6, Tryd.ntmps6
          obtain ⟨b0, c0⟩ := id hg0
          go_wp2_with fail
          refine (C0.out _).mono ?_
          rintro e1 w1 ⟨rfl, k1⟩
          have K1 := k1
          obtain ⟨b1, c1⟩ := K1.two hg1
          go_wp2_with fail
          refine (C1.out _).mono ?_
          rintro e2 w2 ⟨rfl, k2⟩
          have K2 := K1.trans k2
          obtain ⟨b2, c2⟩ := K2.two hg2
          go_wp2_with fail
          refine (C2.out _).mono ?_
          rintro e3 w3 ⟨rfl, k3⟩
          have K3 := K2.trans k3
          go_wp2_with fail
          go_ret2
          exact ListPostI.no K3

end Go.Proofs.YtajidjckpjdebaaDoor
