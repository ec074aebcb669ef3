/-
  Lists of the hexes and of the units that pass a test, as the program makes them, for each test of chapter 8. In memory of its own; nothing that was there is changed.
-/
import Derived.Test.YtncmjpgknckhjaaGreatDoorZnM
import Derived.Test.YtncmjpgknckhjaaGreatDoorQa
import Derived.Test.YtncmjpgknckhjaaGreatDoorQe
import Derived.Test.YtncmjpgknckhjaaGreatDoorQj
import Derived.Test.YtncmjpgknckhjaaGreatDoorQm
import Derived.Test.YtncmjpgknckhjaaGreatDoorQa
namespace Go.Proofs.YtncmjpgknckhjaaGreatDoor
open Go.RowKit


set_option maxRecDepth 100000 in
set_option maxHeartbeats 4000000 in
theorem hexesWhere_Z (fz : Value) (W H : Int) (x r y : Value) (F : Nat → Bool) (n : Nat) (W1 w : World) (a : 1 ≤ W) (b : W ≤ 10) (c : 1 ≤ H) (e : H ≤ 10) (hn : (n : Int) = W * H) (HP : ∀ j : Nat, j < n → ∀ w, Kp W1 w → Calls Tryz.prog 74 #[fz, .int .i64 (j : Int)] w fun e' w' => e' = .returned (.bool (F j)) ∧ Kp w w') (hk : Kp W1 w) :
    Calls Tryz.prog 76 #[mp W H x r y, .func (.func 74) #[fz] #[]] w fun e' w' => ∃ v, e' = .returned v ∧ OwnI w' w.heap.size v (filN F n) ∧ Kp w w' := by
  have hA := area_bd a b c e
  have hn1 : n ≤ 100 := by omega
  have CC : Hid (∀ w, Calls Tryz.prog 105 #[mp W H x r y] w fun e w' => e = .returned (.int .i64 (n : Int)) ∧ Kp w w') := Lib.hid fun w => by
    have := countHexes_any W H x r y w a b c e
    rw [← hn] at this
    exact this
  have HPP := Lib.hid HP
  have s0 := new5 w (.int .i64 W) (.int .i64 H) x r y 42
  obtain ⟨j0, hj0, hz0, hs0, hb0⟩ := info_parts infoInt
  clear HP hn hA
  go_enter Tryz.func76, Tryz.ntmps76
  go_wp2_with fail
  refine (CC.out _).mono ?_
  rintro e1 w1 ⟨rfl, k1⟩
  have K1 : Kp w w1 := s0.2.2.2.2.2.trans k1
  clear s0 k1 CC
  go_wp2_with fail
  go_loopw [5, 6, 9] (fun v _ sq wx => ∃ q : Nat, q ≤ n ∧ sq = .int .i64 q ∧ OwnI wx w.heap.size v (filN F q) ∧ Kp w wx) (fun _ _ sq _ => n - (intOf sq).toNat)
  case atStart => exact ⟨0, by omega, rfl, OwnI.nil _ _, K1⟩
  case round =>
    clear K1
    obtain ⟨q, hqn, rfl, ho, kr⟩ := hrel
    by_cases hlt : q < n
    · have hlt' : (q : Int) < n := by omega
      have HC := Lib.hid (HPP.out q hlt)
      have HO := Lib.hid ho
      have hln := Lib.hid (filN_len F q)
      clear ho
      cases hF : F q
      · rw [hF] at HC
        have HS := Lib.hid (filN_no hF)
        clear hF
        go_wp2_with (go_at_call 74; refine (HC.out _ (hk.trans kr)).mono ?_; rintro e2 w2 ⟨rfl, k2⟩)
        go_roundw
        case rel => exact ⟨q + 1, by omega, by go_num, by rw [HS.out]; exact HO.out.keep k2, kr.trans k2⟩
        case measure => simp [intOf]; omega
      · rw [hF] at HC
        have HS := Lib.hid (filN_yes hF)
        clear hF
        go_wp2_with fail
        refine (HC.out _ (hk.trans kr)).mono ?_
        rintro e2 w2 ⟨rfl, k2⟩
        have HO1 := Lib.hid (HO.out.keep k2)
        have k3 := kr.trans k2
        clear HO k2 kr
        go_wp2_with (at_builtin; refine wpList_append_own_at _ rfl (.tmp 15) (.tmp 17) 26 rfl (w.heap.size) 3 j0 (.int .i64 0) 1 8 Tryz.underlying26 hj0 hz0 hs0 hb0 rfl (by decide) _ (filN F q).length (cellsI (filN F q)) rfl (World.ownsRow.alloc HO1.out _) ⟨w2.heap.size, 0, none⟩ 1 1 [.int .i64 (q : Int)] rfl rfl (one_cell _ _ _) (by simp [Value.oneCell']) (by have := hln.out; simp only [maxLen]; omega) (by have := hln.out; omega) (by have h5 := k3.size; simp; omega) ?_; intro v' w3 hown2 hgrow2 hnil2 hat2; clear hnil2 hat2; have K5 : Kp w w3 := (k3.alloc _).grown hgrow2 (fun k e => by have := (World.ownsRow.lt HO1.out k e).1; omega); have O3 := Lib.hid (OwnI.snoc (x := (q : Int)) hown2); clear hown2 hgrow2)
        go_roundw
        case rel => exact ⟨q + 1, by omega, by go_num, by rw [HS.out]; exact O3.out, K5⟩
        case measure => simp [intOf]; omega
    · obtain rfl : q = n := by omega
      go_wp2_with fail
      go_ret
      exact ⟨_, rfl, ho, kr⟩

set_option maxRecDepth 100000 in
set_option maxHeartbeats 4000000 in
theorem hexesWhere_C (lb : Array Value) (W H : Int) (x r y : Value) (F : Nat → Bool) (n : Nat) (W1 w : World) (a : 1 ≤ W) (b : W ≤ 10) (c : 1 ≤ H) (e : H ≤ 10) (hn : (n : Int) = W * H) (HP : ∀ j : Nat, j < n → ∀ w, Kp W1 w → Calls Tryz.prog 80 (#[.int .i64 (j : Int)] ++ lb) w fun e' w' => e' = .returned (.bool (F j)) ∧ Kp w w') (hk : Kp W1 w) :
    Calls Tryz.prog 76 #[mp W H x r y, .func (.func 80) #[] lb] w fun e' w' => ∃ v, e' = .returned v ∧ OwnI w' w.heap.size v (filN F n) ∧ Kp w w' := by
  have hA := area_bd a b c e
  have hn1 : n ≤ 100 := by omega
  have CC : Hid (∀ w, Calls Tryz.prog 105 #[mp W H x r y] w fun e w' => e = .returned (.int .i64 (n : Int)) ∧ Kp w w') := Lib.hid fun w => by
    have := countHexes_any W H x r y w a b c e
    rw [← hn] at this
    exact this
  have HPP := Lib.hid HP
  have s0 := new5 w (.int .i64 W) (.int .i64 H) x r y 42
  obtain ⟨j0, hj0, hz0, hs0, hb0⟩ := info_parts infoInt
  clear HP hn hA
  go_enter Tryz.func76, Tryz.ntmps76
  go_wp2_with fail
  refine (CC.out _).mono ?_
  rintro e1 w1 ⟨rfl, k1⟩
  have K1 : Kp w w1 := s0.2.2.2.2.2.trans k1
  clear s0 k1 CC
  go_wp2_with fail
  go_loopw [5, 6, 9] (fun v _ sq wx => ∃ q : Nat, q ≤ n ∧ sq = .int .i64 q ∧ OwnI wx w.heap.size v (filN F q) ∧ Kp w wx) (fun _ _ sq _ => n - (intOf sq).toNat)
  case atStart => exact ⟨0, by omega, rfl, OwnI.nil _ _, K1⟩
  case round =>
    clear K1
    obtain ⟨q, hqn, rfl, ho, kr⟩ := hrel
    by_cases hlt : q < n
    · have hlt' : (q : Int) < n := by omega
      have HC := Lib.hid (HPP.out q hlt)
      have HO := Lib.hid ho
      have hln := Lib.hid (filN_len F q)
      clear ho
      cases hF : F q
      · rw [hF] at HC
        have HS := Lib.hid (filN_no hF)
        clear hF
        go_wp2_with (go_at_call 80; refine (HC.out _ (hk.trans kr)).mono ?_; rintro e2 w2 ⟨rfl, k2⟩)
        go_roundw
        case rel => exact ⟨q + 1, by omega, by go_num, by rw [HS.out]; exact HO.out.keep k2, kr.trans k2⟩
        case measure => simp [intOf]; omega
      · rw [hF] at HC
        have HS := Lib.hid (filN_yes hF)
        clear hF
        go_wp2_with fail
        refine (HC.out _ (hk.trans kr)).mono ?_
        rintro e2 w2 ⟨rfl, k2⟩
        have HO1 := Lib.hid (HO.out.keep k2)
        have k3 := kr.trans k2
        clear HO k2 kr
        go_wp2_with (at_builtin; refine wpList_append_own_at _ rfl (.tmp 15) (.tmp 17) 26 rfl (w.heap.size) 3 j0 (.int .i64 0) 1 8 Tryz.underlying26 hj0 hz0 hs0 hb0 rfl (by decide) _ (filN F q).length (cellsI (filN F q)) rfl (World.ownsRow.alloc HO1.out _) ⟨w2.heap.size, 0, none⟩ 1 1 [.int .i64 (q : Int)] rfl rfl (one_cell _ _ _) (by simp [Value.oneCell']) (by have := hln.out; simp only [maxLen]; omega) (by have := hln.out; omega) (by have h5 := k3.size; simp; omega) ?_; intro v' w3 hown2 hgrow2 hnil2 hat2; clear hnil2 hat2; have K5 : Kp w w3 := (k3.alloc _).grown hgrow2 (fun k e => by have := (World.ownsRow.lt HO1.out k e).1; omega); have O3 := Lib.hid (OwnI.snoc (x := (q : Int)) hown2); clear hown2 hgrow2)
        go_roundw
        case rel => exact ⟨q + 1, by omega, by go_num, by rw [HS.out]; exact O3.out, K5⟩
        case measure => simp [intOf]; omega
    · obtain rfl : q = n := by omega
      go_wp2_with fail
      go_ret
      exact ⟨_, rfl, ho, kr⟩



set_option maxRecDepth 100000 in
set_option maxHeartbeats 4000000 in
theorem unitsWhere_S (lb : Array Value) (T Z : Int) (u : Value) (us : List Uni) (F : Uni → Bool) (W1 w : World) (hS : StaAt w u us) (hn12 : us.length ≤ 12) (HP : ∀ z ∈ us, ∀ w, Kp W1 w → Calls Tryz.prog 78 (#[ux z.s z.k z.a z.t] ++ lb) w fun e' w' => e' = .returned (.bool (F z)) ∧ Kp w w') (hk : Kp W1 w) :
    Calls Tryz.prog 59 #[sv T Z u, .func (.func 78) #[] lb] w fun e' w' => ∃ v, e' = .returned v ∧ OwnI w' w.heap.size v (unL F us us.length) ∧ Kp w w' := by
  obtain ⟨A, cp, rfl, h⟩ := hS.rd
  have HA := Lib.hid h
  have HPP := Lib.hid HP
  generalize hN : us.length = N at *
  have HN := Lib.hid hN
  obtain ⟨j0, hj0, hz0, hs0, hb0⟩ := info_parts infoInt
  have k0 : Kp w (w.alloc (.cells #[.int .i64 T, .int .i64 Z, .slice A N cp] 48)) := (Kp.refl w).alloc _
  clear HP h hN hS
  go_enter Tryz.func59, Tryz.ntmps59
  go_wp2_with fail
  go_loopw [5, 6, 11] (fun v _ sq wx => ∃ q : Nat, q ≤ N ∧ sq = .int .i64 q ∧ OwnI wx w.heap.size v (unL F us q) ∧ Kp w wx) (fun _ _ sq _ => N - (intOf sq).toNat)
  case atStart => exact ⟨0, by omega, rfl, OwnI.nil _ _, k0⟩
  case round =>
    clear k0
    obtain ⟨q, hqn, rfl, ho, kr⟩ := hrel
    by_cases hlt : q < N
    · have hlt' : (q : Int) < N := by omega
      obtain ⟨g, off, rfl, hc⟩ := HA.out (by omega)
      obtain ⟨⟨sx, kx, ax, tx⟩, hx⟩ : ∃ x, us[q]? = some x := ⟨us[q]'(by have := HN.out; omega), List.getElem?_eq_getElem _⟩
      obtain ⟨a0, a1, a2, a3⟩ := (hc q _ hx).keep kr
      simp only at a0 a1 a2 a3
      have HX := Lib.hid hx
      have HC := Lib.hid (HPP.out _ (List.mem_of_getElem? hx))
      have hln := Lib.hid (unL_len F us q)
      have kbw : Kp wr (wr.alloc (.cells #[.int .i64 sx, .int .i64 kx, .int .i64 ax, .int .i64 tx] 71)) := (Kp.refl wr).alloc _
      have HO := Lib.hid (ho.keep kbw)
      have kr1 := kr.trans kbw
      clear hc hx ho
      cases hF : F ⟨sx, kx, ax, tx⟩
      · rw [hF] at HC
        have HS := Lib.hid (unL_no HX.out hF)
        clear hF
        go_wp2_with (go_at_call 78; refine (HC.out _ (hk.trans kr1)).mono ?_; rintro e2 w2 ⟨rfl, k2⟩)
        go_roundw
        case rel => exact ⟨q + 1, by omega, by go_num, by rw [HS.out]; exact HO.out.keep k2, kr1.trans k2⟩
        case measure => simp [intOf]; omega
      · rw [hF] at HC
        have HS := Lib.hid (unL_yes HX.out hF)
        clear hF
        go_wp2_with fail
        refine (HC.out _ (hk.trans kr1)).mono ?_
        rintro e2 w2 ⟨rfl, k2⟩
        have HO1 := Lib.hid (HO.out.keep k2)
        have k3 := kr1.trans k2
        clear HO k2 kr kr1 kbw
        go_wp2_with (at_builtin; refine wpList_append_own_at _ rfl (.tmp 19) (.tmp 21) 26 rfl (w.heap.size) 3 j0 (.int .i64 0) 1 8 Tryz.underlying26 hj0 hz0 hs0 hb0 rfl (by decide) _ (unL F us q).length (cellsI (unL F us q)) rfl (World.ownsRow.alloc HO1.out _) ⟨w2.heap.size, 0, none⟩ 1 1 [.int .i64 (q : Int)] rfl rfl (one_cell _ _ _) (by simp [Value.oneCell']) (by have := hln.out; simp only [maxLen]; omega) (by have := hln.out; omega) (by have h5 := k3.size; simp; omega) ?_; intro v' w3 hown2 hgrow2 hnil2 hat2; clear hnil2 hat2; have K5 : Kp w w3 := (k3.alloc _).grown hgrow2 (fun k e => by have := (World.ownsRow.lt HO1.out k e).1; omega); have O3 := Lib.hid (OwnI.snoc (x := (q : Int)) hown2); clear hown2 hgrow2)
        go_roundw
        case rel => exact ⟨q + 1, by omega, by go_num, by rw [HS.out]; exact O3.out, K5⟩
        case measure => simp [intOf]; omega
    · obtain rfl : q = N := by omega
      go_wp2_with fail
      go_ret
      exact ⟨_, rfl, ho, kr⟩

set_option maxRecDepth 100000 in
set_option maxHeartbeats 4000000 in
theorem unitsWhere_A (lb : Array Value) (T Z : Int) (u : Value) (us : List Uni) (F : Uni → Bool) (W1 w : World) (hS : StaAt w u us) (hn12 : us.length ≤ 12) (HP : ∀ z ∈ us, ∀ w, Kp W1 w → Calls Tryz.prog 60 (#[ux z.s z.k z.a z.t] ++ lb) w fun e' w' => e' = .returned (.bool (F z)) ∧ Kp w w') (hk : Kp W1 w) :
    Calls Tryz.prog 59 #[sv T Z u, .func (.func 60) #[] lb] w fun e' w' => ∃ v, e' = .returned v ∧ OwnI w' w.heap.size v (unL F us us.length) ∧ Kp w w' := by
  obtain ⟨A, cp, rfl, h⟩ := hS.rd
  have HA := Lib.hid h
  have HPP := Lib.hid HP
  generalize hN : us.length = N at *
  have HN := Lib.hid hN
  obtain ⟨j0, hj0, hz0, hs0, hb0⟩ := info_parts infoInt
  have k0 : Kp w (w.alloc (.cells #[.int .i64 T, .int .i64 Z, .slice A N cp] 48)) := (Kp.refl w).alloc _
  clear HP h hN hS
  go_enter Tryz.func59, Tryz.ntmps59
  go_wp2_with fail
  go_loopw [5, 6, 11] (fun v _ sq wx => ∃ q : Nat, q ≤ N ∧ sq = .int .i64 q ∧ OwnI wx w.heap.size v (unL F us q) ∧ Kp w wx) (fun _ _ sq _ => N - (intOf sq).toNat)
  case atStart => exact ⟨0, by omega, rfl, OwnI.nil _ _, k0⟩
  case round =>
    clear k0
    obtain ⟨q, hqn, rfl, ho, kr⟩ := hrel
    by_cases hlt : q < N
    · have hlt' : (q : Int) < N := by omega
      obtain ⟨g, off, rfl, hc⟩ := HA.out (by omega)
      obtain ⟨⟨sx, kx, ax, tx⟩, hx⟩ : ∃ x, us[q]? = some x := ⟨us[q]'(by have := HN.out; omega), List.getElem?_eq_getElem _⟩
      obtain ⟨a0, a1, a2, a3⟩ := (hc q _ hx).keep kr
      simp only at a0 a1 a2 a3
      have HX := Lib.hid hx
      have HC := Lib.hid (HPP.out _ (List.mem_of_getElem? hx))
      have hln := Lib.hid (unL_len F us q)
      have kbw : Kp wr (wr.alloc (.cells #[.int .i64 sx, .int .i64 kx, .int .i64 ax, .int .i64 tx] 71)) := (Kp.refl wr).alloc _
      have HO := Lib.hid (ho.keep kbw)
      have kr1 := kr.trans kbw
      clear hc hx ho
      cases hF : F ⟨sx, kx, ax, tx⟩
      · rw [hF] at HC
        have HS := Lib.hid (unL_no HX.out hF)
        clear hF
        go_wp2_with (go_at_call 60; refine (HC.out _ (hk.trans kr1)).mono ?_; rintro e2 w2 ⟨rfl, k2⟩)
        go_roundw
        case rel => exact ⟨q + 1, by omega, by go_num, by rw [HS.out]; exact HO.out.keep k2, kr1.trans k2⟩
        case measure => simp [intOf]; omega
      · rw [hF] at HC
        have HS := Lib.hid (unL_yes HX.out hF)
        clear hF
        go_wp2_with fail
        refine (HC.out _ (hk.trans kr1)).mono ?_
        rintro e2 w2 ⟨rfl, k2⟩
        have HO1 := Lib.hid (HO.out.keep k2)
        have k3 := kr1.trans k2
        clear HO k2 kr kr1 kbw
        go_wp2_with (at_builtin; refine wpList_append_own_at _ rfl (.tmp 19) (.tmp 21) 26 rfl (w.heap.size) 3 j0 (.int .i64 0) 1 8 Tryz.underlying26 hj0 hz0 hs0 hb0 rfl (by decide) _ (unL F us q).length (cellsI (unL F us q)) rfl (World.ownsRow.alloc HO1.out _) ⟨w2.heap.size, 0, none⟩ 1 1 [.int .i64 (q : Int)] rfl rfl (one_cell _ _ _) (by simp [Value.oneCell']) (by have := hln.out; simp only [maxLen]; omega) (by have := hln.out; omega) (by have h5 := k3.size; simp; omega) ?_; intro v' w3 hown2 hgrow2 hnil2 hat2; clear hnil2 hat2; have K5 : Kp w w3 := (k3.alloc _).grown hgrow2 (fun k e => by have := (World.ownsRow.lt HO1.out k e).1; omega); have O3 := Lib.hid (OwnI.snoc (x := (q : Int)) hown2); clear hown2 hgrow2)
        go_roundw
        case rel => exact ⟨q + 1, by omega, by go_num, by rw [HS.out]; exact O3.out, K5⟩
        case measure => simp [intOf]; omega
    · obtain rfl : q = N := by omega
      go_wp2_with fail
      go_ret
      exact ⟨_, rfl, ho, kr⟩

set_option maxRecDepth 100000 in
set_option maxHeartbeats 4000000 in
theorem unitsWhere_F (lb : Array Value) (T Z : Int) (u : Value) (us : List Uni) (F : Uni → Bool) (W1 w : World) (hS : StaAt w u us) (hn12 : us.length ≤ 12) (HP : ∀ z ∈ us, ∀ w, Kp W1 w → Calls Tryz.prog 71 (#[ux z.s z.k z.a z.t] ++ lb) w fun e' w' => e' = .returned (.bool (F z)) ∧ Kp w w') (hk : Kp W1 w) :
    Calls Tryz.prog 59 #[sv T Z u, .func (.func 71) #[] lb] w fun e' w' => ∃ v, e' = .returned v ∧ OwnI w' w.heap.size v (unL F us us.length) ∧ Kp w w' := by
  obtain ⟨A, cp, rfl, h⟩ := hS.rd
  have HA := Lib.hid h
  have HPP := Lib.hid HP
  generalize hN : us.length = N at *
  have HN := Lib.hid hN
  obtain ⟨j0, hj0, hz0, hs0, hb0⟩ := info_parts infoInt
  have k0 : Kp w (w.alloc (.cells #[.int .i64 T, .int .i64 Z, .slice A N cp] 48)) := (Kp.refl w).alloc _
  clear HP h hN hS
  go_enter Tryz.func59, Tryz.ntmps59
  go_wp2_with fail
  go_loopw [5, 6, 11] (fun v _ sq wx => ∃ q : Nat, q ≤ N ∧ sq = .int .i64 q ∧ OwnI wx w.heap.size v (unL F us q) ∧ Kp w wx) (fun _ _ sq _ => N - (intOf sq).toNat)
  case atStart => exact ⟨0, by omega, rfl, OwnI.nil _ _, k0⟩
  case round =>
    clear k0
    obtain ⟨q, hqn, rfl, ho, kr⟩ := hrel
    by_cases hlt : q < N
    · have hlt' : (q : Int) < N := by omega
      obtain ⟨g, off, rfl, hc⟩ := HA.out (by omega)
      obtain ⟨⟨sx, kx, ax, tx⟩, hx⟩ : ∃ x, us[q]? = some x := ⟨us[q]'(by have := HN.out; omega), List.getElem?_eq_getElem _⟩
      obtain ⟨a0, a1, a2, a3⟩ := (hc q _ hx).keep kr
      simp only at a0 a1 a2 a3
      have HX := Lib.hid hx
      have HC := Lib.hid (HPP.out _ (List.mem_of_getElem? hx))
      have hln := Lib.hid (unL_len F us q)
      have kbw : Kp wr (wr.alloc (.cells #[.int .i64 sx, .int .i64 kx, .int .i64 ax, .int .i64 tx] 71)) := (Kp.refl wr).alloc _
      have HO := Lib.hid (ho.keep kbw)
      have kr1 := kr.trans kbw
      clear hc hx ho
      cases hF : F ⟨sx, kx, ax, tx⟩
      · rw [hF] at HC
        have HS := Lib.hid (unL_no HX.out hF)
        clear hF
        go_wp2_with (go_at_call 71; refine (HC.out _ (hk.trans kr1)).mono ?_; rintro e2 w2 ⟨rfl, k2⟩)
        go_roundw
        case rel => exact ⟨q + 1, by omega, by go_num, by rw [HS.out]; exact HO.out.keep k2, kr1.trans k2⟩
        case measure => simp [intOf]; omega
      · rw [hF] at HC
        have HS := Lib.hid (unL_yes HX.out hF)
        clear hF
        go_wp2_with fail
        refine (HC.out _ (hk.trans kr1)).mono ?_
        rintro e2 w2 ⟨rfl, k2⟩
        have HO1 := Lib.hid (HO.out.keep k2)
        have k3 := kr1.trans k2
        clear HO k2 kr kr1 kbw
        go_wp2_with (at_builtin; refine wpList_append_own_at _ rfl (.tmp 19) (.tmp 21) 26 rfl (w.heap.size) 3 j0 (.int .i64 0) 1 8 Tryz.underlying26 hj0 hz0 hs0 hb0 rfl (by decide) _ (unL F us q).length (cellsI (unL F us q)) rfl (World.ownsRow.alloc HO1.out _) ⟨w2.heap.size, 0, none⟩ 1 1 [.int .i64 (q : Int)] rfl rfl (one_cell _ _ _) (by simp [Value.oneCell']) (by have := hln.out; simp only [maxLen]; omega) (by have := hln.out; omega) (by have h5 := k3.size; simp; omega) ?_; intro v' w3 hown2 hgrow2 hnil2 hat2; clear hnil2 hat2; have K5 : Kp w w3 := (k3.alloc _).grown hgrow2 (fun k e => by have := (World.ownsRow.lt HO1.out k e).1; omega); have O3 := Lib.hid (OwnI.snoc (x := (q : Int)) hown2); clear hown2 hgrow2)
        go_roundw
        case rel => exact ⟨q + 1, by omega, by go_num, by rw [HS.out]; exact O3.out, K5⟩
        case measure => simp [intOf]; omega
    · obtain rfl : q = N := by omega
      go_wp2_with fail
      go_ret
      exact ⟨_, rfl, ho, kr⟩

end Go.Proofs.YtncmjpgknckhjaaGreatDoor
