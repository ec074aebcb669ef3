/-
  Lists of the hexes and of the units that pass a test, as the program makes them, for each test of chapter 8. In memory of its own; nothing that was there is changed.
-/
import Derived.Test.YtiojmbbdcccokaaGreatDoorZnM
import Derived.Test.YtiojmbbdcccokaaGreatDoorQa
import Derived.Test.YtiojmbbdcccokaaGreatDoorQe
import Derived.Test.YtiojmbbdcccokaaGreatDoorQj
import Derived.Test.YtiojmbbdcccokaaGreatDoorQm
import Derived.Test.YtiojmbbdcccokaaGreatDoorQa
namespace Go.Proofs.YtiojmbbdcccokaaGreatDoor
open Go.RowKit


set_option maxRecDepth 100000 in
set_option maxHeartbeats 4000000 in
theorem hexesWhere_Z (fz : Value) (W H : Int) (x r y : Value) (F : Nat → Bool) (n : Nat) (W1 w : World) (a : 1 ≤ W) (b : W ≤ 10) (c : 1 ≤ H) (e : H ≤ 10) (hn : (n : Int) = W * H) (HP : ∀ j : Nat, j < n → ∀ w, Kp W1 w → Calls Tryz.prog 38 #[fz, .int .i64 (j : Int)] w fun e' w' => e' = .returned (.bool (F j)) ∧ Kp w w') (hk : Kp W1 w) :
    Calls Tryz.prog 36 #[mp W H x r y, .func (.func 38) #[fz] #[]] w fun e' w' => ∃ v, e' = .returned v ∧ OwnI w' w.heap.size v (filN F n) ∧ Kp w w' := by
  have hA := area_bd a b c e
  have hn1 : n ≤ 100 := by omega
  have CC : Hid (∀ w, Calls Tryz.prog 73 #[mp W H x r y] w fun e w' => e = .returned (.int .i64 (n : Int)) ∧ Kp w w') := Lib.hid fun w => by
    have := countHexes_any W H x r y w a b c e
    rw [← hn] at this
    exact this
  have HPP := Lib.hid HP
  have s0 := new5 w (.int .i64 W) (.int .i64 H) x r y 42
  obtain ⟨j0, hj0, hz0, hs0, hb0⟩ := info_parts infoInt
  clear HP hn hA
  go_enter Tryz.func36, Tryz.ntmps36
  go_wp2_with fail
  refine (CC.out _).mono ?_
  rintro e1 w1 ⟨rfl, k1⟩
  have K1 : Kp w w1 := s0.2.2.2.2.2.trans k1
  clear s0 k1 CC
  go_wp2_with fail
  go_loopw [5, 6, 9] (fun v _ sq wx => ∃ q : Nat, q ≤ n ∧ sq = .int .i64 q ∧ OwnI wx w.heap.size v (filN F q) ∧ Kp w wx) (fun _ _ sq _ => n - (intOf sq).toNat)
  case atStart => exact ⟨0, by omega, rfl, OwnI.nil _ _, K1⟩
  case round =>
    clear K1
    obtain ⟨q, hqn, rfl, ho, kr⟩ := hrel
    by_cases hlt : q < n
    · have hlt' : (q : Int) < n := by omega
      have HC := Lib.hid (HPP.out q hlt)
      have HO := Lib.hid ho
      have hln := Lib.hid (filN_len F q)
      clear ho
      cases hF : F q
      · rw [hF] at HC
        have HS := Lib.hid (filN_no hF)
        clear hF
        go_wp2_with (go_at_call 38; refine (HC.out _ (hk.trans kr)).mono ?_; rintro e2 w2 ⟨rfl, k2⟩)
        go_roundw
        case rel => exact ⟨q + 1, by omega, by go_num, by rw [HS.out]; exact HO.out.keep k2, kr.trans k2⟩
        case measure => simp [intOf]; omega
      · rw [hF] at HC
        have HS := Lib.hid (filN_yes hF)
        clear hF
        go_wp2_with fail
        refine (HC.out _ (hk.trans kr)).mono ?_
        rintro e2 w2 ⟨rfl, k2⟩
        have HO1 := Lib.hid (HO.out.keep k2)
        have k3 := kr.trans k2
        clear HO k2 kr
        go_wp2_with (at_builtin; refine wpList_append_own_at _ rfl (.tmp 15) (.tmp 17) 26 rfl (w.heap.size) 3 j0 (.int .i64 0) 1 8 Tryz.underlying26 hj0 hz0 hs0 hb0 rfl (by decide) _ (filN F q).length (cellsI (filN F q)) rfl (World.ownsRow.alloc HO1.out _) ⟨w2.heap.size, 0, none⟩ 1 1 [.int .i64 (q : Int)] rfl rfl (one_cell _ _ _) (by simp [Value.oneCell']) (by have := hln.out; simp only [maxLen]; omega) (by have := hln.out; omega) (by have h5 := k3.size; simp; omega) ?_; intro v' w3 hown2 hgrow2 hnil2 hat2; clear hnil2 hat2; have K5 : Kp w w3 := (k3.alloc _).grown hgrow2 (fun k e => by have := (World.ownsRow.lt HO1.out k e).1; omega); have O3 := Lib.hid (OwnI.snoc (x := (q : Int)) hown2); clear hown2 hgrow2)
        go_roundw
        case rel => exact ⟨q + 1, by omega, by go_num, by rw [HS.out]; exact O3.out, K5⟩
        case measure => simp [intOf]; omega
    · obtain rfl : q = n := by omega
      go_wp2_with fail
      go_ret
      exact ⟨_, rfl, ho, kr⟩

set_option maxRecDepth 100000 in
set_option maxHeartbeats 4000000 in
theorem hexesWhere_C (lb : Array Value) (W H : Int) (x r y : Value) (F : Nat → Bool) (n : Nat) (W1 w : World) (a : 1 ≤ W) (b : W ≤ 10) (c : 1 ≤ H) (e : H ≤ 10) (hn : (n : Int) = W * H) (HP : ∀ j : Nat, j < n → ∀ w, Kp W1 w → Calls Tryz.prog 37 (#[.int .i64 (j : Int)] ++ lb) w fun e' w' => e' = .returned (.bool (F j)) ∧ Kp w w') (hk : Kp W1 w) :
    Calls Tryz.prog 36 #[mp W H x r y, .func (.func 37) #[] lb] w fun e' w' => ∃ v, e' = .returned v ∧ OwnI w' w.heap.size v (filN F n) ∧ Kp w w' := by
  have hA := area_bd a b c e
  have hn1 : n ≤ 100 := by omega
  have CC : Hid (∀ w, Calls Tryz.prog 73 #[mp W H x r y] w fun e w' => e = .returned (.int .i64 (n : Int)) ∧ Kp w w') := Lib.hid fun w => by
    have := countHexes_any W H x r y w a b c e
    rw [← hn] at this
    exact this
  have HPP := Lib.hid HP
  have s0 := new5 w (.int .i64 W) (.int .i64 H) x r y 42
  obtain ⟨j0, hj0, hz0, hs0, hb0⟩ := info_parts infoInt
  clear HP hn hA
  go_enter Tryz.func36, Tryz.ntmps36
  go_wp2_with fail
  refine (CC.out _).mono ?_
  rintro e1 w1 ⟨rfl, k1⟩
  have K1 : Kp w w1 := s0.2.2.2.2.2.trans k1
  clear s0 k1 CC
  go_wp2_with fail
  go_loopw [5, 6, 9] (fun v _ sq wx => ∃ q : Nat, q ≤ n ∧ sq = .int .i64 q ∧ OwnI wx w.heap.size v (filN F q) ∧ Kp w wx) (fun _ _ sq _ => n - (intOf sq).toNat)
  case atStart => exact ⟨0, by omega, rfl, OwnI.nil _ _, K1⟩
  case round =>
    clear K1
    obtain ⟨q, hqn, rfl, ho, kr⟩ := hrel
    by_cases hlt : q < n
    · have hlt' : (q : Int) < n := by omega
      have HC := Lib.hid (HPP.out q hlt)
      have HO := Lib.hid ho
      have hln := Lib.hid (filN_len F q)
      clear ho
      cases hF : F q
      · rw [hF] at HC
        have HS := Lib.hid (filN_no hF)
        clear hF
        go_wp2_with (go_at_call 37; refine (HC.out _ (hk.trans kr)).mono ?_; rintro e2 w2 ⟨rfl, k2⟩)
        go_roundw
        case rel => exact ⟨q + 1, by omega, by go_num, by rw [HS.out]; exact HO.out.keep k2, kr.trans k2⟩
        case measure => simp [intOf]; omega
      · rw [hF] at HC
        have HS := Lib.hid (filN_yes hF)
        clear hF
        go_wp2_with fail
        refine (HC.out _ (hk.trans kr)).mono ?_
        rintro e2 w2 ⟨rfl, k2⟩
        have HO1 := Lib.hid (HO.out.keep k2)
        have k3 := kr.trans k2
        clear HO k2 kr
        go_wp2_with (at_builtin; refine wpList_append_own_at _ rfl (.tmp 15) (.tmp 17) 26 rfl (w.heap.size) 3 j0 (.int .i64 0) 1 8 Tryz.underlying26 hj0 hz0 hs0 hb0 rfl (by decide) _ (filN F q).length (cellsI (filN F q)) rfl (World.ownsRow.alloc HO1.out _) ⟨w2.heap.size, 0, none⟩ 1 1 [.int .i64 (q : Int)] rfl rfl (one_cell _ _ _) (by simp [Value.oneCell']) (by have := hln.out; simp only [maxLen]; omega) (by have := hln.out; omega) (by have h5 := k3.size; simp; omega) ?_; intro v' w3 hown2 hgrow2 hnil2 hat2; clear hnil2 hat2; have K5 : Kp w w3 := (k3.alloc _).grown hgrow2 (fun k e => by have := (World.ownsRow.lt HO1.out k e).1; omega); have O3 := Lib.hid (OwnI.snoc (x := (q : Int)) hown2); clear hown2 hgrow2)
        go_roundw
        case rel => exact ⟨q + 1, by omega, by go_num, by rw [HS.out]; exact O3.out, K5⟩
        case measure => simp [intOf]; omega
    · obtain rfl : q = n := by omega
      go_wp2_with fail
      go_ret
      exact ⟨_, rfl, ho, kr⟩






end Go.Proofs.YtiojmbbdcccokaaGreatDoor
