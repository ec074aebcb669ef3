/-
  Texts of this seat in one module: SlS.
-/
import Derived.Test.YtbohefollbmhkaaGreatDoorQf

/-
  The reference's functions on seals that reach no text. Nothing that was there is changed.
-/
namespace Go.Proofs.YtbohefollbmhkaaGreatDoor
open Go.RowKit

set_option maxRecDepth 100000 in
set_option maxHeartbeats 4000000 in
theorem eGood_any (t s x : Int) (w : World) :
    Calls Tryz.prog 59 #[slx t s x] w fun e w' => e = .returned (.bool (seaB ⟨t, s, x⟩)) ∧ Kp w w' := by
  have C0 := Lib.hid (fun w => l1In_sp t 0 30 w)
  have C1 := Lib.hid (fun w => l1In_sp s 0 1 w)
  have C2 := Lib.hid (fun w => dSeed_any x w)
  cases h0 : spB 0 30 t
  · rw [h0] at C0
    have hO : seaB ⟨t, s, x⟩ = false := by first | (unfold seaB; rw [h0]; rfl) | simp [seaB, h0]
    rw [hO]
    go_enter Tryz.func59, Tryz.ntmps59
    go_wp2_with fail
    refine (C0.out _).mono ?_
    rintro e1 w1 ⟨rfl, rfl⟩
    go_wp2_with fail
    go_ret
    exact ⟨rfl, (Kp.refl w).alloc _⟩
  · rw [h0] at C0
    cases h1 : spB 0 1 s
    · rw [h1] at C1
      have hO : seaB ⟨t, s, x⟩ = false := by first | (unfold seaB; rw [h0, h1]; rfl) | simp [seaB, h0, h1]
      rw [hO]
      go_enter Tryz.func59, Tryz.ntmps59
      go_wp2_with fail
      refine (C0.out _).mono ?_
      rintro e1 w1 ⟨rfl, rfl⟩
      go_wp2_with fail
      refine (C1.out _).mono ?_
      rintro e2 w2 ⟨rfl, rfl⟩
      go_wp2_with fail
      go_ret
      exact ⟨rfl, (Kp.refl w).alloc _⟩
    · rw [h1] at C1
      cases h2 : seedB x
      · rw [h2] at C2
        have hO : seaB ⟨t, s, x⟩ = false := by first | (unfold seaB; rw [h0, h1, h2]; rfl) | simp [seaB, h0, h1, h2]
        rw [hO]
        go_enter Tryz.func59, Tryz.ntmps59
        go_wp2_with fail
        refine (C0.out _).mono ?_
        rintro e1 w1 ⟨rfl, rfl⟩
        go_wp2_with fail
        refine (C1.out _).mono ?_
        rintro e2 w2 ⟨rfl, rfl⟩
        go_wp2_with fail
        refine (C2.out _).mono ?_
        rintro e3 w3 ⟨rfl, rfl⟩
        go_wp2_with fail
        go_ret
        exact ⟨rfl, (Kp.refl w).alloc _⟩
      · have hO : seaB ⟨t, s, x⟩ = true := by first | (unfold seaB; rw [h0, h1, h2]; rfl) | simp [seaB, h0, h1, h2]
        rw [hO]
        clear hO
        rw [h2] at C2
        go_enter Tryz.func59, Tryz.ntmps59
        go_wp2_with fail
        refine (C0.out _).mono ?_
        rintro e1 w1 ⟨rfl, rfl⟩
        go_wp2_with fail
        refine (C1.out _).mono ?_
        rintro e2 w2 ⟨rfl, rfl⟩
        go_wp2_with fail
        refine (C2.out _).mono ?_
        rintro e3 w3 ⟨rfl, rfl⟩
        go_wp2_with fail
        go_ret
        exact ⟨rfl, (Kp.refl w).alloc _⟩

set_option maxRecDepth 100000 in
set_option maxHeartbeats 4000000 in
theorem eList_any (v : Value) (l : List Sea) (w : World) (h : RdSl w v l) (hl : l.length ≤ 1048576) :
    Calls Tryz.prog 38 #[v] w fun e w' => e = .returned (.bool (roundB seaB l)) ∧ Kp w w' := by
  obtain ⟨A, c, rfl, h⟩ := h
  have HA := Lib.hid h
  clear h
  obtain ⟨n, hn⟩ : ∃ n, l.length = n := ⟨_, rfl⟩
  obtain ⟨F, hF⟩ : ∃ F, F = roundB seaB l := ⟨_, rfl⟩
  rw [← hF]
  have HF := Lib.hid hF
  clear hF
  rw [hn] at HA hl ⊢
  have HN := Lib.hid hn
  clear hn
  go_enter Tryz.func38, Tryz.ntmps38
  go_wp2_with fail
  go_loopw [7] (fun i wr => ∃ k : Nat, k ≤ n ∧ i = .int .i64 k ∧ Hid (∀ j x, j < k → l[j]? = some x → seaB x = true) ∧ Kp w wr) (fun i _ => n - (intOf i).toNat)
  case atStart => exact ⟨0, by omega, rfl, Lib.hid (fun j x hj => absurd hj (by omega)), Kp.refl w⟩
  case round =>
    obtain ⟨k, hk, rfl, hP, kr⟩ := hrel
    by_cases hlt : k < n
    · have hlt' : (k : Int) < n := by omega
      obtain ⟨g, off, rfl, hc⟩ := HA.out (by omega)
      obtain ⟨x, hx⟩ : ∃ x, l[k]? = some x := ⟨l[k]'(by have := HN.out; omega), List.getElem?_eq_getElem _⟩
      have a9 := (hc k x hx).keep kr
      have HX := Lib.hid hx
      clear hc hx
      obtain ⟨t, s, y⟩ := x
      obtain ⟨a0, a1, a2⟩ := a9
      simp only at a0 a1 a2
      have HC := Lib.hid (fun w => eGood_any t s y w)
      cases hok : seaB ⟨t, s, y⟩
      · have hf : Hid (F = false) := Lib.hid (by rw [HF.out, roundB, allB_no HX.out hok, Bool.and_false])
        rw [hok] at HC
        clear hok
        go_wp2_with fail
        refine (HC.out _).mono ?_
        rintro e2 w2 ⟨rfl, k2⟩
        go_wp2_with fail
        go_ret
        exact ⟨ret_bool hf.out.symm, (kr.alloc (.cells #[.int .i64 t, .int .i64 s, .int .i64 y] 29)).trans k2⟩
      · have HP2 : Hid (∀ j x, j < k + 1 → l[j]? = some x → seaB x = true) := Lib.hid (fun j y hj hy => by
          by_cases e : j = k
          · subst e
            rw [HX.out] at hy
            obtain rfl := Option.some.inj hy
            exact hok
          · exact hP.out j y (by omega) hy)
        rw [hok] at HC
        clear hok
        go_wp2_with fail
        refine (HC.out _).mono ?_
        rintro e2 w2 ⟨rfl, k2⟩
        go_wp2_with fail
        go_roundw
        case rel => exact ⟨k + 1, by omega, by go_num, HP2, (kr.alloc (.cells #[.int .i64 t, .int .i64 s, .int .i64 y] 29)).trans k2⟩
        case measure => simp [intOf]; omega
    · obtain rfl : k = n := by omega
      have hf : Hid (decide ((k : Int) ≤ 4) = F) := Lib.hid (by
        rw [HF.out, roundB, allB_yes (fun j x hj hx => hP.out j x (by have := HN.out; omega) hx), Bool.and_true, HN.out]
        congr 1
        exact propext (by omega))
      go_wp2_with fail
      go_ret
      exact ⟨ret_bool hf.out, kr⟩

set_option maxRecDepth 100000 in
set_option maxHeartbeats 4000000 in
theorem eJoint_any (t : Int) (v : Value) (l : List Int) (w : World) (h : RdI w v l) (hl : l.length ≤ 1000) :
    Calls Tryz.prog 47 #[.int .i64 t, v] w fun e w' => e = .returned (.int .i64 (hashN (mixL (12 :: t :: l)))) ∧ Kp w w' := by
  have O0 := Lib.hid (own_two w w.heap.size 12 t (Nat.le_refl _))
  have R3 := Lib.hid (h.keep ((Kp.refl w).alloc (.cells #[.int .i64 12, .int .i64 t] 3)))
  have K4 := (Kp.refl w).alloc (.cells #[.int .i64 12, .int .i64 t] 3)
  have z4 := K4.size
  have CM := Lib.hid (fun v w h => dHash_any v (12 :: t :: l) w h (by simp; omega))
  obtain ⟨A, c, rfl, -⟩ := h
  generalize hashN (mixL (12 :: t :: l)) = X at *
  obtain ⟨n, hn⟩ : ∃ n, l.length = n := ⟨_, rfl⟩
  have HN := Lib.hid hn
  rw [hn] at R3 hl ⊢
  clear hn
  go_enter Tryz.func47, Tryz.ntmps47
  go_wp2_with (at_builtin; refine wpList_append_ints rfl (.tmp 6) (.tmp 7) rfl w.heap.size _ _ _ l rfl rfl O0.out R3.out (by have := HN.out; simp; omega) z4 ?_; intro v5 w5 own5 grow5; have O5 := Lib.hid own5; have K5 := K4.appended O0.out grow5 (Nat.le_refl _); clear own5 grow5)
  refine (CM.out _ _ O5.out.rd).mono ?_
  rintro e6 w6 ⟨rfl, rfl⟩
  go_wp2_with fail
  go_ret
  exact ⟨rfl, K5⟩

theorem joiB_alt (t : Int) (l : List Int) : joiB t l = (spB 0 30 t && (spB 1 4 (l.length : Int) && l.all (spB 0 4611686016279904236))) := by
  have e : spB 1 4 (l.length : Int) = (decide (l.length ≠ 0) && decide (l.length ≤ 4)) := by
    by_cases h1 : l.length = 0
    · simp [spB, h1]
    · by_cases h2 : l.length ≤ 4
      · have h3 : decide (l.length ≠ 0) = true := by simpa using h1
        have h4 : decide (l.length ≤ 4) = true := by simpa using h2
        rw [h3, h4]
        simp [spB]
        omega
      · have h4 : decide (l.length ≤ 4) = false := by simpa using h2
        rw [h4]
        simp [spB]
        omega
  rw [e, Bool.and_assoc]
  rfl
set_option maxRecDepth 100000 in
set_option maxHeartbeats 4000000 in
theorem jointSeedS_any (t : Int) (v : Value) (l : List Int) (w : World) (h : RdI w v l) (hl : l.length ≤ 1048576) :
    Calls Tryz.prog 20 #[.int .i64 t, v] w fun e w' => e = .returned (ib (joiB t l) (hashN (mixL (12 :: t :: l)))) ∧ Kp w w' := by
  rw [joiB_alt]
  have R0 := Lib.hid h
  obtain ⟨A, c, rfl, -⟩ := h
  obtain ⟨n, hn⟩ : ∃ n, l.length = n := ⟨_, rfl⟩
  have CJ := Lib.hid (fun (w : World) h (h4 : l.length ≤ 4) => eJoint_any t (.slice A n c) l w h (by omega))
  rw [hn] at R0 CJ ⊢
  have HN := Lib.hid hn
  clear hn
  obtain ⟨X, hX⟩ : ∃ X, hashN (mixL (12 :: t :: l)) = X := ⟨_, rfl⟩
  rw [hX] at CJ ⊢
  clear hX
  obtain ⟨J, hJ⟩ : ∃ J, J = (spB 0 30 t && (spB 1 4 (n : Int) && l.all (spB 0 4611686016279904236))) := ⟨_, rfl⟩
  rw [← hJ]
  have C0 := Lib.hid (fun w => l1In_sp t 0 30 w)
  have C1 := Lib.hid (fun w => l1In_sp (n : Int) 1 4 w)
  have C2 := Lib.hid (fun w h => l1All_sp (.slice A n c) l 0 4611686016279904236 w h hl)
  cases h0 : spB 0 30 t
  · rw [h0] at C0
    have hO : J = false := by rw [hJ]; rw [h0]; rfl
    rw [hO]
    go_enter Tryz.func20, Tryz.ntmps20
    go_wp2_with fail
    refine (C0.out _).mono ?_
    rintro e1 w1 ⟨rfl, rfl⟩
    go_wp2_with fail
    go_ret2
    exact ⟨rfl, Kp.refl w⟩
  · rw [h0] at C0
    cases h1 : spB 1 4 (n : Int)
    · rw [h1] at C1
      have hO : J = false := by rw [hJ]; rw [h0, h1]; rfl
      rw [hO]
      go_enter Tryz.func20, Tryz.ntmps20
      go_wp2_with fail
      refine (C0.out _).mono ?_
      rintro e1 w1 ⟨rfl, rfl⟩
      go_wp2_with fail
      refine (C1.out _).mono ?_
      rintro e2 w2 ⟨rfl, rfl⟩
      go_wp2_with fail
      go_ret2
      exact ⟨rfl, Kp.refl w⟩
    · rw [h1] at C1
      cases h2 : l.all (spB 0 4611686016279904236)
      · rw [h2] at C2
        have hO : J = false := by rw [hJ]; rw [h0, h1, h2]; rfl
        rw [hO]
        go_enter Tryz.func20, Tryz.ntmps20
        go_wp2_with fail
        refine (C0.out _).mono ?_
        rintro e1 w1 ⟨rfl, rfl⟩
        go_wp2_with fail
        refine (C1.out _).mono ?_
        rintro e2 w2 ⟨rfl, rfl⟩
        go_wp2_with fail
        refine (C2.out _ R0.out).mono ?_
        rintro e3 w3 ⟨rfl, rfl⟩
        go_wp2_with fail
        go_ret2
        exact ⟨rfl, Kp.refl w⟩
      · have hO : J = true := by rw [hJ]; rw [h0, h1, h2]; rfl
        rw [hO]
        clear hO
        rw [h2] at C2
        have hn4 := sp_bd h1
        go_enter Tryz.func20, Tryz.ntmps20
        go_wp2_with fail
        refine (C0.out _).mono ?_
        rintro e1 w1 ⟨rfl, rfl⟩
        go_wp2_with fail
        refine (C1.out _).mono ?_
        rintro e2 w2 ⟨rfl, rfl⟩
        go_wp2_with fail
        refine (C2.out _ R0.out).mono ?_
        rintro e3 w3 ⟨rfl, rfl⟩
        go_wp2_with fail
        refine (CJ.out _ R0.out (by omega)).mono ?_
        rintro e9 w9 ⟨rfl, k9⟩
        go_wp2_with fail
        go_ret2
        exact ⟨rfl, k9⟩

set_option maxRecDepth 100000 in
set_option maxHeartbeats 4000000 in
theorem eChain_any (v : Value) (l : List Sea) (w : World) (h : RdSl w v l) (hl : l.length ≤ 4) :
    Calls Tryz.prog 42 #[v] w fun e w' => ∃ v', e = .returned v' ∧ OwnI w' w.heap.size v' (chnL l l.length) ∧ Kp w w' := by
  obtain ⟨j0, hj0, hz0, hs0, hb0⟩ := info_parts infoInt
  obtain ⟨A, c, rfl, h⟩ := h
  have HA := Lib.hid h
  clear h
  obtain ⟨n, hn⟩ : ∃ n, l.length = n := ⟨_, rfl⟩
  rw [hn] at HA hl ⊢
  have HN := Lib.hid hn
  clear hn
  go_enter Tryz.func42, Tryz.ntmps42
  go_wp2_with fail
  go_loopw [3, 4, 9] (fun v bv iv wr => ∃ k : Nat, k ≤ n ∧ iv = .int .i64 k ∧ bv = .int .i64 (lastN l k) ∧ Hid (OwnI wr w.heap.size v (chnL l k)) ∧ Kp w wr) (fun _ _ iv _ => n - (intOf iv).toNat)
  case atStart => exact ⟨0, by omega, rfl, rfl, Lib.hid (OwnI.nil _ _), Kp.refl w⟩
  case round =>
    obtain ⟨k, hk, rfl, rfl, hO, kr⟩ := hrel
    by_cases hlt : k < n
    · have hlt' : (k : Int) < n := by omega
      obtain ⟨g, off, rfl, hc⟩ := HA.out (by omega)
      obtain ⟨x, hx⟩ : ∃ x, l[k]? = some x := ⟨l[k]'(by have := HN.out; omega), List.getElem?_eq_getElem _⟩
      have a9 := (hc k x hx).keep kr
      have HS := Lib.hid (show chnL l (k + 1) = chnL l k ++ [lastN l (k + 1)] from rfl)
      have hst := lastN_step hx
      obtain ⟨t, s, y⟩ := x
      obtain ⟨a0, a1, a2⟩ := a9
      simp only at a0 a1 a2 hst
      clear hc hx
      have hln := Lib.hid (chnL_len l k)
      generalize chnL l k = L at hO HS hln
      generalize lastN l k = B at *
      have C1 := Lib.hid (fun (w : World) (m : Nat) (hm : w.heap.size = m) => dHash_any (.slice (some ⟨m, 0, none⟩) 5 5) [13, B, t, s, y] (w.alloc (.cells #[.int .i64 13, .int .i64 B, .int .i64 t, .int .i64 s, .int .i64 y] 3)) (by rw [← hm]; exact rd5 w 13 B t s y 3) (by simp))
      rw [← hst] at C1
      obtain ⟨D, hD⟩ : ∃ D, D = lastN l (k + 1) := ⟨_, rfl⟩
      rw [← hD] at C1 HS
      have HD := Lib.hid hD
      clear hst hD
      go_wp2_with fail
      refine (C1.out (wr.alloc (.cells #[.int .i64 t, .int .i64 s, .int .i64 y] 29)) (wr.heap.size + 1) (by simp)).mono ?_
      rintro e2 w3 ⟨rfl, hw3⟩
      have K3 : Kp w w3 := by
        rw [← hw3]
        exact (kr.alloc (.cells #[.int .i64 t, .int .i64 s, .int .i64 y] 29)).alloc (.cells #[.int .i64 13, .int .i64 B, .int .i64 t, .int .i64 s, .int .i64 y] 3)
      have HO3 : Hid (OwnI w3 w.heap.size _ L) := Lib.hid (by
        rw [← hw3]
        exact (hO.out.keep ((Kp.refl wr).alloc (.cells #[.int .i64 t, .int .i64 s, .int .i64 y] 29))).keep ((Kp.refl _).alloc (.cells #[.int .i64 13, .int .i64 B, .int .i64 t, .int .i64 s, .int .i64 y] 3)))
      have z3 := K3.size
      clear hw3 hO a0 a1 a2 kr
      go_wp2_with (at_builtin; refine wpList_append_own_at _ rfl (.tmp 22) (.tmp 24) 43 rfl w.heap.size 3 j0 (.int .i64 0) 1 8 Tryz.underlying43 hj0 hz0 hs0 hb0 rfl (by decide) _ L.length (cellsI L) rfl (World.ownsRow.alloc HO3.out _) ⟨w3.heap.size, 0, none⟩ 1 1 [.int .i64 D] rfl rfl (one_cell _ _ _) (by simp [Value.oneCell']) (by have := hln.out; simp only [maxLen]; omega) (by have := hln.out; omega) (by simp; omega) ?_; intro v' w4 hown2 hgrow2 hnil2 hat2; clear hnil2 hat2; have O4 : Hid (OwnI w4 w.heap.size v' (chnL l (k + 1))) := Lib.hid (by rw [HS.out]; exact OwnI.snoc hown2); have K4 : Kp w w4 := (K3.alloc _).grown hgrow2 (fun k e => (World.ownsRow.lt HO3.out k e).1); clear hown2 hgrow2)
      go_roundw
      case rel => exact ⟨k + 1, by omega, by go_num, by rw [HD.out], O4, K4⟩
      case measure => simp [intOf]; omega
    · obtain rfl : k = n := by omega
      go_wp2_with fail
      go_ret
      exact ⟨_, rfl, hO.out, kr⟩

set_option maxRecDepth 100000 in
set_option maxHeartbeats 4000000 in
theorem sealChainS_any (v : Value) (l : List Sea) (w : World) (h : RdSl w v l) (hl : l.length ≤ 1048576) :
    Calls Tryz.prog 15 #[v] w fun e w' => ListPostI (roundB seaB l) (chnL l l.length) w e w' := by
  have CL := Lib.hid (eList_any v l w h hl)
  have RL := Lib.hid h
  obtain ⟨A, c, rfl, -⟩ := h
  cases hok : roundB seaB l
  · rw [hok] at CL
    generalize l.length = n at *
    go_enter Tryz.func15, Tryz.ntmps15
    go_wp2_with fail
    refine CL.out.mono ?_
    rintro e1 w1 ⟨rfl, k1⟩
    go_wp2_with fail
    go_ret2
    exact ListPostI.no k1
  · rw [hok] at CL
    have hn4 := roundB_len hok
    clear hok
    have CC := Lib.hid (fun w h => eChain_any (.slice A l.length c) l w h hn4)
    generalize chnL l l.length = L at *
    generalize l.length = n at *
    go_enter Tryz.func15, Tryz.ntmps15
    go_wp2_with fail
    refine CL.out.mono ?_
    rintro e1 w1 ⟨rfl, k1⟩
    go_wp2_with fail
    refine (CC.out _ (RL.out.keep k1)).mono ?_
    rintro e2 w2 ⟨v2, rfl, o2, k2⟩
    have z2 := k1.size
    go_wp2_with fail
    go_ret2
    exact ⟨v2, rfl, o2.base z2, k1.trans k2⟩

end Go.Proofs.YtbohefollbmhkaaGreatDoor
