/-
  Texts of this seat in one module: SlP.
-/
import Derived.Test.YtbohefollbmhkaaGreatDoorQc
import Derived.Test.YtbohefollbmhkaaGreatDoorQf

/-
  The program's functions on seals that reach no text: valid seals and lists, joint seeds, chains. Nothing that was there is changed. The named variables hold what the program's text lays.
-/
namespace Go.Proofs.YtbohefollbmhkaaGreatDoor
open Go.RowKit

set_option maxRecDepth 100000 in
set_option maxHeartbeats 4000000 in
theorem isSealedP_any (t s x : Int) (w : World) (hg0 : SpanAt w 0 0 30) (hg1 : SpanAt w 1 0 1) (hg2 : SpanAt w 2 0 4611686016279904236) :
    Calls Tryz.prog 29 #[slx t s x] w fun e w' => e = .returned (.bool (seaB ⟨t, s, x⟩)) ∧ Kp w w' := by
  have C0 := Lib.hid (fun w => has_any 0 30 t w)
  have C1 := Lib.hid (fun w => has_any 0 1 s w)
  have C2 := Lib.hid (fun w => has_any 0 4611686016279904236 x w)
  cases h0 : spB 0 30 t
  · rw [h0] at C0
    have hO : seaB ⟨t, s, x⟩ = false := by first | (unfold seaB; rw [h0]; rfl) | simp [seaB, seedB, h0]
    rw [hO]
    have K0 : Kp w (w.alloc (.cells #[.int .i64 t, .int .i64 s, .int .i64 x] 29)) := (Kp.refl w).alloc _
    have P0 : (w.alloc (.cells #[.int .i64 t, .int .i64 s, .int .i64 x] 29)).cell? ⟨w.heap.size, 0, none⟩ = some (.int .i64 t) := by simp [go_sem]
    have P1 : (w.alloc (.cells #[.int .i64 t, .int .i64 s, .int .i64 x] 29)).cell? ⟨w.heap.size, 1, none⟩ = some (.int .i64 s) := by simp [go_sem]
    have P2 : (w.alloc (.cells #[.int .i64 t, .int .i64 s, .int .i64 x] 29)).cell? ⟨w.heap.size, 2, none⟩ = some (.int .i64 x) := by simp [go_sem]
    go_enter Tryz.func29, Tryz.ntmps29
    obtain ⟨b0, c0⟩ := K0.two hg0
    go_wp2_with fail
    refine (C0.out _).mono ?_
    rintro e1 w1 ⟨rfl, k1⟩
    have K1 := K0.trans k1
    go_wp2_with fail
    go_ret
    exact ⟨rfl, K1⟩
  · rw [h0] at C0
    cases h1 : spB 0 1 s
    · rw [h1] at C1
      have hO : seaB ⟨t, s, x⟩ = false := by first | (unfold seaB; rw [h0, h1]; rfl) | simp [seaB, seedB, h0, h1]
      rw [hO]
      have K0 : Kp w (w.alloc (.cells #[.int .i64 t, .int .i64 s, .int .i64 x] 29)) := (Kp.refl w).alloc _
      have P0 : (w.alloc (.cells #[.int .i64 t, .int .i64 s, .int .i64 x] 29)).cell? ⟨w.heap.size, 0, none⟩ = some (.int .i64 t) := by simp [go_sem]
      have P1 : (w.alloc (.cells #[.int .i64 t, .int .i64 s, .int .i64 x] 29)).cell? ⟨w.heap.size, 1, none⟩ = some (.int .i64 s) := by simp [go_sem]
      have P2 : (w.alloc (.cells #[.int .i64 t, .int .i64 s, .int .i64 x] 29)).cell? ⟨w.heap.size, 2, none⟩ = some (.int .i64 x) := by simp [go_sem]
      go_enter Tryz.func29, Tryz.ntmps29
      obtain ⟨b0, c0⟩ := K0.two hg0
      go_wp2_with fail
      refine (C0.out _).mono ?_
      rintro e1 w1 ⟨rfl, k1⟩
      have K1 := K0.trans k1
      obtain ⟨b1, c1⟩ := K1.two hg1
      have p1 := k1.cell P1
      go_wp2_with fail
      refine (C1.out _).mono ?_
      rintro e2 w2 ⟨rfl, k2⟩
      have K2 := K1.trans k2
      go_wp2_with fail
      go_ret
      exact ⟨rfl, K2⟩
    · rw [h1] at C1
      cases h2 : spB 0 4611686016279904236 x
      · rw [h2] at C2
        have hO : seaB ⟨t, s, x⟩ = false := by first | (unfold seaB; rw [h0, h1, h2]; rfl) | simp [seaB, seedB, h0, h1, h2]
        rw [hO]
        have K0 : Kp w (w.alloc (.cells #[.int .i64 t, .int .i64 s, .int .i64 x] 29)) := (Kp.refl w).alloc _
        have P0 : (w.alloc (.cells #[.int .i64 t, .int .i64 s, .int .i64 x] 29)).cell? ⟨w.heap.size, 0, none⟩ = some (.int .i64 t) := by simp [go_sem]
        have P1 : (w.alloc (.cells #[.int .i64 t, .int .i64 s, .int .i64 x] 29)).cell? ⟨w.heap.size, 1, none⟩ = some (.int .i64 s) := by simp [go_sem]
        have P2 : (w.alloc (.cells #[.int .i64 t, .int .i64 s, .int .i64 x] 29)).cell? ⟨w.heap.size, 2, none⟩ = some (.int .i64 x) := by simp [go_sem]
        go_enter Tryz.func29, Tryz.ntmps29
        obtain ⟨b0, c0⟩ := K0.two hg0
        go_wp2_with fail
        refine (C0.out _).mono ?_
        rintro e1 w1 ⟨rfl, k1⟩
        have K1 := K0.trans k1
        obtain ⟨b1, c1⟩ := K1.two hg1
        have p1 := k1.cell P1
        go_wp2_with fail
        refine (C1.out _).mono ?_
        rintro e2 w2 ⟨rfl, k2⟩
        have K2 := K1.trans k2
        obtain ⟨b2, c2⟩ := K2.two hg2
        have p2 := (k1.trans k2).cell P2
        go_wp2_with fail
        refine (C2.out _).mono ?_
        rintro e3 w3 ⟨rfl, k3⟩
        have K3 := K2.trans k3
        go_wp2_with fail
        go_ret
        exact ⟨rfl, K3⟩
      · have hO : seaB ⟨t, s, x⟩ = true := by first | (unfold seaB; rw [h0, h1, h2]; rfl) | simp [seaB, seedB, h0, h1, h2]
        rw [hO]
        clear hO
        rw [h2] at C2
        have K0 : Kp w (w.alloc (.cells #[.int .i64 t, .int .i64 s, .int .i64 x] 29)) := (Kp.refl w).alloc _
        have P0 : (w.alloc (.cells #[.int .i64 t, .int .i64 s, .int .i64 x] 29)).cell? ⟨w.heap.size, 0, none⟩ = some (.int .i64 t) := by simp [go_sem]
        have P1 : (w.alloc (.cells #[.int .i64 t, .int .i64 s, .int .i64 x] 29)).cell? ⟨w.heap.size, 1, none⟩ = some (.int .i64 s) := by simp [go_sem]
        have P2 : (w.alloc (.cells #[.int .i64 t, .int .i64 s, .int .i64 x] 29)).cell? ⟨w.heap.size, 2, none⟩ = some (.int .i64 x) := by simp [go_sem]
        go_enter Tryz.func29, Tryz.ntmps29
        obtain ⟨b0, c0⟩ := K0.two hg0
        go_wp2_with fail
        refine (C0.out _).mono ?_
        rintro e1 w1 ⟨rfl, k1⟩
        have K1 := K0.trans k1
        obtain ⟨b1, c1⟩ := K1.two hg1
        have p1 := k1.cell P1
        go_wp2_with fail
        refine (C1.out _).mono ?_
        rintro e2 w2 ⟨rfl, k2⟩
        have K2 := K1.trans k2
        obtain ⟨b2, c2⟩ := K2.two hg2
        have p2 := (k1.trans k2).cell P2
        go_wp2_with fail
        refine (C2.out _).mono ?_
        rintro e3 w3 ⟨rfl, k3⟩
        have K3 := K2.trans k3
        go_wp2_with fail
        go_ret
        exact ⟨rfl, K3⟩

set_option maxRecDepth 100000 in
set_option maxHeartbeats 4000000 in
theorem isRoundSl_any (v : Value) (l : List Sea) (w : World) (h : RdSl w v l) (hl : l.length ≤ 1048576) (hr : SpanAt w 4 0 4) (hg0 : SpanAt w 0 0 30) (hg1 : SpanAt w 1 0 1) (hg2 : SpanAt w 2 0 4611686016279904236) :
    Calls Tryz.prog 36 #[v, .func (.func 29) #[] #[]] w fun e w' => e = .returned (.bool (roundB seaB l)) ∧ Kp w w' := by
  obtain ⟨A, c, rfl, h⟩ := h
  have HA := Lib.hid h
  have HS := Lib.hid (show SpanAt w 0 0 30 ∧ SpanAt w 1 0 1 ∧ SpanAt w 2 0 4611686016279904236 from ⟨hg0, hg1, hg2⟩)
  clear h
  have hR : roundB seaB l = (decide (l.length ≤ 4) && l.all seaB) := rfl
  obtain ⟨n, hn⟩ : ∃ n, l.length = n := ⟨_, rfl⟩
  rw [hR]
  clear hR
  obtain ⟨F, hF⟩ : ∃ F, F = l.all seaB := ⟨_, rfl⟩
  rw [← hF]
  have HF := Lib.hid hF
  clear hF
  rw [hn] at HA hl ⊢
  have HN := Lib.hid hn
  clear hn
  have C0 := Lib.hid (fun w => has_any 0 4 (n : Int) w)
  obtain ⟨b0, c0⟩ := hr
  by_cases hb : n ≤ 4
  · have hd : decide (n ≤ 4) = true := by simpa using hb
    rw [hd, Bool.true_and]
    have h0 : spB 0 4 (n : Int) = true := by simp [spB]; omega
    rw [h0] at C0
    clear h0 hd
    go_enter Tryz.func36, Tryz.ntmps36
    go_wp2_with fail
    refine (C0.out _).mono ?_
    rintro e1 w1 ⟨rfl, k1⟩
    clear b0 c0
    go_wp2_with fail
    go_loopw [14] (fun i wr => ∃ k : Nat, k ≤ n ∧ i = .int .i64 k ∧ Hid (∀ j x, j < k → l[j]? = some x → seaB x = true) ∧ Kp w wr) (fun i _ => n - (intOf i).toNat)
    case atStart => exact ⟨0, by omega, rfl, Lib.hid (fun j x hj => absurd hj (by omega)), k1⟩
    case round =>
      clear k1
      obtain ⟨k, hk, rfl, hP, kr⟩ := hrel
      by_cases hlt : k < n
      · have hlt' : (k : Int) < n := by omega
        obtain ⟨g, off, rfl, hc⟩ := HA.out (by omega)
        obtain ⟨x, hx⟩ : ∃ x, l[k]? = some x := ⟨l[k]'(by have := HN.out; omega), List.getElem?_eq_getElem _⟩
        have a9 := (hc k x hx).keep kr
        have HX := Lib.hid hx
        clear hc hx
        obtain ⟨t, s, x⟩ := x
        obtain ⟨a0, a1, a2⟩ := a9
        simp only at a0 a1 a2 
        have HC := Lib.hid (fun (w : World) (h : SpanAt w 0 0 30 ∧ SpanAt w 1 0 1 ∧ SpanAt w 2 0 4611686016279904236) => isSealedP_any t s x w h.1 h.2.1 h.2.2)
        cases hok : seaB ⟨t, s, x⟩
        · have hf : Hid (F = false) := Lib.hid (by rw [HF.out]; exact allB_no HX.out hok)
          rw [hok] at HC
          clear hok
          go_wp2_with (first | (go_at_call 29; refine (HC.out _ ⟨((kr.alloc (.cells #[.int .i64 t, .int .i64 s, .int .i64 x] 29))).two HS.out.1, ((kr.alloc (.cells #[.int .i64 t, .int .i64 s, .int .i64 x] 29))).two HS.out.2.1, ((kr.alloc (.cells #[.int .i64 t, .int .i64 s, .int .i64 x] 29))).two HS.out.2.2⟩).mono ?_; rintro e2 w2 ⟨rfl, k2⟩))
          go_ret
          exact ⟨ret_bool hf.out.symm, (kr.alloc (.cells #[.int .i64 t, .int .i64 s, .int .i64 x] 29)).trans k2⟩
        · have HP2 : Hid (∀ j x, j < k + 1 → l[j]? = some x → seaB x = true) := Lib.hid (fun j y hj hy => by
            by_cases e : j = k
            · subst e
              rw [HX.out] at hy
              obtain rfl := Option.some.inj hy
              exact hok
            · exact hP.out j y (by omega) hy)
          rw [hok] at HC
          clear hok
          go_wp2_with (first | (go_at_call 29; refine (HC.out _ ⟨((kr.alloc (.cells #[.int .i64 t, .int .i64 s, .int .i64 x] 29))).two HS.out.1, ((kr.alloc (.cells #[.int .i64 t, .int .i64 s, .int .i64 x] 29))).two HS.out.2.1, ((kr.alloc (.cells #[.int .i64 t, .int .i64 s, .int .i64 x] 29))).two HS.out.2.2⟩).mono ?_; rintro e2 w2 ⟨rfl, k2⟩))
          go_roundw
          case rel => exact ⟨k + 1, by omega, by go_num, HP2, (kr.alloc (.cells #[.int .i64 t, .int .i64 s, .int .i64 x] 29)).trans k2⟩
          case measure => simp [intOf]; omega
      · obtain rfl : k = n := by omega
        have hf : Hid (F = true) := Lib.hid (by rw [HF.out]; exact allB_yes (fun j x hj hx => hP.out j x (by have := HN.out; omega) hx))
        go_wp2_with fail
        go_ret
        exact ⟨ret_bool hf.out.symm, kr⟩
  · have hd : decide (n ≤ 4) = false := by simpa using hb
    rw [hd, Bool.false_and]
    have h0 : spB 0 4 (n : Int) = false := by simp [spB]; omega
    rw [h0] at C0
    clear h0 hd
    go_enter Tryz.func36, Tryz.ntmps36
    go_wp2_with fail
    refine (C0.out _).mono ?_
    rintro e1 w1 ⟨rfl, k1⟩
    go_wp2_with fail
    go_ret
    exact ⟨rfl, k1⟩

set_option maxRecDepth 100000 in
set_option maxHeartbeats 4000000 in
theorem isRoundI_any (v : Value) (l : List Int) (w : World) (h : RdI w v l) (hl : l.length ≤ 1048576) (hr : SpanAt w 4 0 4)  :
    Calls Tryz.prog 44 #[v, .func (.func 23) #[.agg #[.int .i64 0, .int .i64 4611686016279904236]] #[]] w fun e w' => e = .returned (.bool (roundB seedB l)) ∧ Kp w w' := by
  obtain ⟨A, c, rfl, h⟩ := h
  have HA := Lib.hid h
  clear h
  have hR : roundB seedB l = (decide (l.length ≤ 4) && l.all seedB) := rfl
  obtain ⟨n, hn⟩ : ∃ n, l.length = n := ⟨_, rfl⟩
  rw [hR]
  clear hR
  obtain ⟨F, hF⟩ : ∃ F, F = l.all seedB := ⟨_, rfl⟩
  rw [← hF]
  have HF := Lib.hid hF
  clear hF
  rw [hn] at HA hl ⊢
  have HN := Lib.hid hn
  clear hn
  have C0 := Lib.hid (fun w => has_any 0 4 (n : Int) w)
  obtain ⟨b0, c0⟩ := hr
  by_cases hb : n ≤ 4
  · have hd : decide (n ≤ 4) = true := by simpa using hb
    rw [hd, Bool.true_and]
    have h0 : spB 0 4 (n : Int) = true := by simp [spB]; omega
    rw [h0] at C0
    clear h0 hd
    go_enter Tryz.func44, Tryz.ntmps44
    go_wp2_with fail
    refine (C0.out _).mono ?_
    rintro e1 w1 ⟨rfl, k1⟩
    clear b0 c0
    go_wp2_with fail
    go_loopw [14] (fun i wr => ∃ k : Nat, k ≤ n ∧ i = .int .i64 k ∧ Hid (∀ j x, j < k → l[j]? = some x → seedB x = true) ∧ Kp w wr) (fun i _ => n - (intOf i).toNat)
    case atStart => exact ⟨0, by omega, rfl, Lib.hid (fun j x hj => absurd hj (by omega)), k1⟩
    case round =>
      clear k1
      obtain ⟨k, hk, rfl, hP, kr⟩ := hrel
      by_cases hlt : k < n
      · have hlt' : (k : Int) < n := by omega
        obtain ⟨g, off, rfl, hc⟩ := HA.out (by omega)
        obtain ⟨x, hx⟩ : ∃ x, l[k]? = some x := ⟨l[k]'(by have := HN.out; omega), List.getElem?_eq_getElem _⟩
        have a9 := kr.cell (hc k x hx)
        have HX := Lib.hid hx
        clear hc hx
        have HC : Hid (∀ w : World, Calls Tryz.prog 23 #[.agg #[.int .i64 0, .int .i64 4611686016279904236], .int .i64 x] w fun e w' => e = .returned (.bool (seedB x)) ∧ Kp w w') := Lib.hid (fun (w : World) => has_any 0 4611686016279904236 x w)
        cases hok : seedB x
        · have hf : Hid (F = false) := Lib.hid (by rw [HF.out]; exact allB_no HX.out hok)
          rw [hok] at HC
          clear hok
          go_wp2_with (first | (go_at_call 23; refine (HC.out _).mono ?_; rintro e2 w2 ⟨rfl, k2⟩))
          go_ret
          exact ⟨ret_bool hf.out.symm, kr.trans k2⟩
        · have HP2 : Hid (∀ j x, j < k + 1 → l[j]? = some x → seedB x = true) := Lib.hid (fun j y hj hy => by
            by_cases e : j = k
            · subst e
              rw [HX.out] at hy
              obtain rfl := Option.some.inj hy
              exact hok
            · exact hP.out j y (by omega) hy)
          rw [hok] at HC
          clear hok
          go_wp2_with (first | (go_at_call 23; refine (HC.out _).mono ?_; rintro e2 w2 ⟨rfl, k2⟩))
          go_roundw
          case rel => exact ⟨k + 1, by omega, by go_num, HP2, kr.trans k2⟩
          case measure => simp [intOf]; omega
      · obtain rfl : k = n := by omega
        have hf : Hid (F = true) := Lib.hid (by rw [HF.out]; exact allB_yes (fun j x hj hx => hP.out j x (by have := HN.out; omega) hx))
        go_wp2_with fail
        go_ret
        exact ⟨ret_bool hf.out.symm, kr⟩
  · have hd : decide (n ≤ 4) = false := by simpa using hb
    rw [hd, Bool.false_and]
    have h0 : spB 0 4 (n : Int) = false := by simp [spB]; omega
    rw [h0] at C0
    clear h0 hd
    go_enter Tryz.func44, Tryz.ntmps44
    go_wp2_with fail
    refine (C0.out _).mono ?_
    rintro e1 w1 ⟨rfl, k1⟩
    go_wp2_with fail
    go_ret
    exact ⟨rfl, k1⟩

set_option maxRecDepth 100000 in
set_option maxHeartbeats 4000000 in
theorem jointSeedP_any (t : Int) (v : Value) (l : List Int) (w : World) (h : RdI w v l) (hl : l.length ≤ 1048576) (hg0 : SpanAt w 0 0 30) (hg1 : SpanAt w 4 0 4) (hg2 : SpanAt w 2 0 4611686016279904236) (hg3 : SpanAt w 5 0 200) :
    Calls Tryz.prog 19 #[.int .i64 t, v] w fun e w' => e = .returned (ib (joiB t l) (hashN (mixL (12 :: t :: l)))) ∧ Kp w w' := by
  have R0 := Lib.hid h
  obtain ⟨A, c, hv, -⟩ := h
  obtain ⟨n, hn⟩ : ∃ n, l.length = n := ⟨_, rfl⟩
  have HN := Lib.hid hn
  rw [hn] at hv
  have C0 := Lib.hid (fun w => has_any 0 30 t w)
  have C2 := Lib.hid (fun w h g => isRoundI_any v l w h hl g)
  cases h0 : spB 0 30 t
  · rw [h0] at C0
    have hO : joiB t l = false := by first | (unfold joiB; rw [h0]; rfl) | simp [joiB, h0]
    rw [hO]
    subst hv
    go_enter Tryz.func19, Tryz.ntmps19
    obtain ⟨b0, c0⟩ := id hg0
    go_wp2_with fail
    refine (C0.out _).mono ?_
    rintro e1 w1 ⟨rfl, k1⟩
    have K1 := k1
    go_wp2_with fail
    go_ret2
    exact ⟨rfl, K1⟩
  · rw [h0] at C0
    cases h1 : decide (l.length ≠ 0)
    · have hO : joiB t l = false := by first | (unfold joiB; rw [h0, h1]; rfl) | simp [joiB, h0, h1]
      rw [hO]
      have hz : l.length = 0 := by simpa using h1
      have hz' : ((l.length : Int) == 0) = true := by simp [hz]
      rw [HN.out] at hz hz'
      obtain rfl := hz
      subst hv
      go_enter Tryz.func19, Tryz.ntmps19
      obtain ⟨b0, c0⟩ := id hg0
      go_wp2_with fail
      refine (C0.out _).mono ?_
      rintro e1 w1 ⟨rfl, k1⟩
      have K1 := k1
      go_wp2_with fail
      go_ret2
      exact ⟨rfl, K1⟩
    · have hz : l.length ≠ 0 := by simpa using h1
      have hz' : ((l.length : Int) == 0) = false := by simpa using hz
      rw [HN.out] at hz hz'
      have hz0 : ¬ (n : Int) = 0 := by omega
      cases h2 : roundB seedB l
      · rw [h2] at C2
        have hO : joiB t l = false := by first | (unfold joiB; rw [h0, h1, h2]; rfl) | simp [joiB, h0, h1, h2]
        rw [hO]
        subst hv
        go_enter Tryz.func19, Tryz.ntmps19
        obtain ⟨b0, c0⟩ := id hg0
        go_wp2_with fail
        refine (C0.out _).mono ?_
        rintro e1 w1 ⟨rfl, k1⟩
        have K1 := k1
        obtain ⟨b2, c2⟩ := K1.two hg2
        go_wp2_with fail
        refine (C2.out _ (R0.out.keep K1) (K1.two hg1)).mono ?_
        rintro e3 w3 ⟨rfl, k3⟩
        have K3 := K1.trans k3
        go_wp2_with fail
        go_ret2
        exact ⟨rfl, K3⟩
      · have hO : joiB t l = true := by first | (unfold joiB; rw [h0, h1, h2]; rfl) | simp [joiB, h0, h1, h2]
        rw [hO]
        clear hO
        rw [h2] at C2
        have hn4 := roundB_len h2
        have hmx : mixB (12 :: t :: l) = true := by simp [mixB]; omega
        have CM := Lib.hid (fun v w h g => mixNumbersP_any v (12 :: t :: l) w h (by simp; omega) g)
        rw [hmx] at CM
        generalize hashN (mixL (12 :: t :: l)) = X at *
        clear hmx
        subst hv
        go_enter Tryz.func19, Tryz.ntmps19
        obtain ⟨b0, c0⟩ := id hg0
        go_wp2_with fail
        refine (C0.out _).mono ?_
        rintro e1 w1 ⟨rfl, k1⟩
        have K1 := k1
        obtain ⟨b2, c2⟩ := K1.two hg2
        go_wp2_with fail
        refine (C2.out _ (R0.out.keep K1) (K1.two hg1)).mono ?_
        rintro e3 w3 ⟨rfl, k3⟩
        have K3 := K1.trans k3
        have O0 := Lib.hid (own_two w3 w.heap.size 12 t K3.size)
        have R3 := Lib.hid ((R0.out.keep K3).keep ((Kp.refl w3).alloc (.cells #[.int .i64 12, .int .i64 t] 3)))
        have K4 := K3.alloc (.cells #[.int .i64 12, .int .i64 t] 3)
        have z4 := K4.size
        go_wp2_with (at_builtin; refine wpList_append_ints rfl (.tmp 23) (.tmp 24) rfl w.heap.size _ _ _ l rfl rfl O0.out R3.out (by simp; omega) z4 ?_; intro v5 w5 own5 grow5; have O5 := Lib.hid own5; have K5 := K4.appended O0.out grow5 (Nat.le_refl _); clear own5 grow5)
        refine (CM.out _ _ O5.out.rd (K5.two hg3)).mono ?_
        rintro e6 w6 ⟨rfl, k6⟩
        go_wp2_with fail
        go_ret2
        exact ⟨rfl, K5.trans k6⟩

set_option maxRecDepth 100000 in
set_option maxHeartbeats 4000000 in
theorem sealChainP_any (v : Value) (l : List Sea) (w : World) (h : RdSl w v l) (hl : l.length ≤ 1048576) (hr : SpanAt w 4 0 4) (hg0 : SpanAt w 0 0 30) (hg1 : SpanAt w 1 0 1) (hg2 : SpanAt w 2 0 4611686016279904236) :
    Calls Tryz.prog 14 #[v] w fun e w' => ListPostI (roundB seaB l) (chnL l l.length) w e w' := by
  obtain ⟨j0, hj0, hz0, hs0, hb0⟩ := info_parts infoInt
  have CR := Lib.hid (isRoundSl_any v l w h hl hr hg0 hg1 hg2)
  obtain ⟨A, c, rfl, h⟩ := h
  have HA := Lib.hid h
  clear h
  cases hok : roundB seaB l
  · rw [hok] at CR
    generalize l.length = n at *
    go_enter Tryz.func14, Tryz.ntmps14
    go_wp2_with fail
    refine CR.out.mono ?_
    rintro e1 w1 ⟨rfl, k1⟩
    go_wp2_with fail
    go_ret2
    exact ListPostI.no k1
  · rw [hok] at CR
    have hn4 := roundB_len hok
    clear hok
    obtain ⟨n, hn⟩ : ∃ n, l.length = n := ⟨_, rfl⟩
    rw [hn] at HA hn4 CR ⊢
    have HN := Lib.hid hn
    clear hn hl
    have hmk := fun w => mkInts0 n (by omega) w
    have own0 : Hid (∀ w1 : World, Kp w w1 → OwnI (w1.alloc (.cells (madeCells #[.int .i64 0] n) 3)) w.heap.size (.slice (some ⟨w1.heap.size, 0, none⟩) 0 n) (chnL l 0)) := Lib.hid (fun w1 k => ownI_made0 w1 w.heap.size n k.size (by omega))
    go_enter Tryz.func14, Tryz.ntmps14
    go_wp2_with fail
    refine CR.out.mono ?_
    rintro e1 w1 ⟨rfl, k1⟩
    have O1 := Lib.hid (own0.out w1 k1)
    go_wp2_with fail
    go_loopw [4, 5, 16] (fun v bv iv wr => ∃ k : Nat, k ≤ n ∧ iv = .int .i64 k ∧ bv = .int .i64 (lastN l k) ∧ Hid (OwnI wr w.heap.size v (chnL l k)) ∧ Kp w wr) (fun _ _ iv _ => n - (intOf iv).toNat)
    case atStart => exact ⟨0, by omega, rfl, rfl, O1, k1.alloc _⟩
    case round =>
      clear O1 k1 own0 hmk CR
      obtain ⟨k, hk, rfl, rfl, hO, kr⟩ := hrel
      by_cases hlt : k < n
      · have hlt' : (k : Int) < n := by omega
        obtain ⟨g, off, rfl, hc⟩ := HA.out (by omega)
        obtain ⟨x, hx⟩ : ∃ x, l[k]? = some x := ⟨l[k]'(by have := HN.out; omega), List.getElem?_eq_getElem _⟩
        have a9 := (hc k x hx).keep kr
        have HS := Lib.hid (show chnL l (k + 1) = chnL l k ++ [lastN l (k + 1)] from rfl)
        have hst := lastN_step hx
        obtain ⟨t, s, y⟩ := x
        obtain ⟨a0, a1, a2⟩ := a9
        simp only at a0 a1 a2 hst
        clear hc hx
        have hbd := mixL_bd [13, lastN l k, t, s, y]
        have hln := Lib.hid (chnL_len l k)
        generalize chnL l k = L at hO HS hln
        generalize lastN l k = B at *
        have HB := Lib.hid hst
        have C1 := Lib.hid (fun (w : World) (m : Nat) (hm : w.heap.size = m) => mixOf_any (.slice (some ⟨m, 0, none⟩) 5 5) [13, B, t, s, y] (w.alloc (.cells #[.int .i64 13, .int .i64 B, .int .i64 t, .int .i64 s, .int .i64 y] 3)) (by rw [← hm]; exact rd5 w 13 B t s y 3) (by simp))
        have hq : hashN (mixL [13, B, t, s, y]) = hashN ((mixL [13, B, t, s, y]).1, (mixL [13, B, t, s, y]).2) := rfl
        rw [hq] at hst
        generalize (mixL [13, B, t, s, y]).1 = a at *
        generalize (mixL [13, B, t, s, y]).2 = b at *
        have C2 := Lib.hid (fun w => number_any a b w hbd.1 (by omega) hbd.2.2.1 (by omega))
        rw [← hst] at C2
        have HR : Hid (Value.int .i64 (hashN (a, b)) = Value.int .i64 (lastN l (k + 1))) := Lib.hid (by rw [hst])
        obtain ⟨D, hD⟩ : ∃ D, D = lastN l (k + 1) := ⟨_, rfl⟩
        rw [← hD] at C2 HS
        have HD := Lib.hid hD
        clear hq hst HB HR hbd hD
        go_wp2_with fail
        refine (C1.out (wr.alloc (.cells #[.int .i64 t, .int .i64 s, .int .i64 y] 29)) (wr.heap.size + 1) (by simp)).mono ?_
        rintro e2 w2 ⟨rfl, k2⟩
        have K2 := ((kr.alloc (.cells #[.int .i64 t, .int .i64 s, .int .i64 y] 29)).alloc (.cells #[.int .i64 13, .int .i64 B, .int .i64 t, .int .i64 s, .int .i64 y] 3)).trans k2
        have HO2 := Lib.hid (((hO.out.keep ((Kp.refl wr).alloc (.cells #[.int .i64 t, .int .i64 s, .int .i64 y] 29))).keep ((Kp.refl _).alloc (.cells #[.int .i64 13, .int .i64 B, .int .i64 t, .int .i64 s, .int .i64 y] 3))).keep k2)
        clear k2 hO a0 a1 a2
        go_wp2_with fail
        refine (C2.out _).mono ?_
        rintro e3 w3 ⟨rfl, k3⟩
        have K3 := K2.trans k3
        have HO3 := Lib.hid (HO2.out.keep k3)
        have z3 := K3.size
        clear k3 K2 HO2 kr
        go_wp2_with (at_builtin; refine wpList_append_own_at _ rfl (.tmp 30) (.tmp 32) 43 rfl w.heap.size 3 j0 (.int .i64 0) 1 8 Tryz.underlying43 hj0 hz0 hs0 hb0 rfl (by decide) _ L.length (cellsI L) rfl (World.ownsRow.alloc HO3.out _) ⟨w3.heap.size, 0, none⟩ 1 1 [.int .i64 D] rfl rfl (one_cell _ _ _) (by simp [Value.oneCell']) (by have := hln.out; simp only [maxLen]; omega) (by have := hln.out; omega) (by simp; omega) ?_; intro v' w4 hown2 hgrow2 hnil2 hat2; clear hnil2 hat2; have O4 : Hid (OwnI w4 w.heap.size v' (chnL l (k + 1))) := Lib.hid (by rw [HS.out]; exact OwnI.snoc hown2); have K4 : Kp w w4 := (K3.alloc _).grown hgrow2 (fun k e => (World.ownsRow.lt HO3.out k e).1); clear hown2 hgrow2)
        go_roundw
        case rel => exact ⟨k + 1, by omega, by go_num, by rw [HD.out], O4, K4⟩
        case measure => simp [intOf]; omega
      · obtain rfl : k = n := by omega
        go_wp2_with fail
        go_ret2
        exact ⟨_, rfl, hO.out, kr⟩

set_option maxRecDepth 100000 in
set_option maxHeartbeats 4000000 in
theorem firstBadSealP_any (v u : Value) (l : List Sea) (c : List Int) (w : World) (h : RdSl w v l) (hu : RdI w u c) (hl : l.length ≤ 1048576) (hcl : c.length ≤ 1048576) (hr : SpanAt w 4 0 4) (hg0 : SpanAt w 0 0 30) (hg1 : SpanAt w 1 0 1) (hg2 : SpanAt w 2 0 4611686016279904236) :
    Calls Tryz.prog 17 #[v, u] w fun e w' => e = .returned (ib (fbB l c) (fstK (neP c (chnL l l.length)) 0 l.length : Nat)) ∧ Kp w w' := by
  have CS := Lib.hid (sealChainP_any v l w h hl hr hg0 hg1 hg2)
  obtain ⟨A, ca, rfl, -⟩ := h
  have RU := Lib.hid hu
  obtain ⟨B, cb, rfl, -⟩ := hu
  have hB : fbB l c = (roundB seaB l && decide (c.length = l.length)) := rfl
  rw [hB]
  clear hB
  unfold ListPostI at CS
  cases hok : roundB seaB l
  · rw [hok] at CS
    rw [Bool.false_and]
    generalize (fstK (neP c (chnL l l.length)) 0 l.length) = R
    generalize chnL l l.length = L at CS
    generalize l.length = n at *
    generalize c.length = m at *
    clear hok
    go_enter Tryz.func17, Tryz.ntmps17
    go_wp2_with fail
    refine CS.out.mono ?_
    rintro e1 w1 ⟨v1, rfl, o1, k1⟩
    clear o1
    go_wp2_with fail
    go_ret2
    exact ⟨rfl, k1⟩
  · rw [hok] at CS
    rw [Bool.true_and]
    clear hok
    have HL := Lib.hid (chnL_len l l.length)
    generalize chnL l l.length = L at *
    obtain ⟨n, hn⟩ : ∃ n, l.length = n := ⟨_, rfl⟩
    obtain ⟨m, hm⟩ : ∃ m, c.length = m := ⟨_, rfl⟩
    have HM := Lib.hid hm
    rw [hn] at HL CS hl ⊢
    rw [hm] at hcl ⊢
    clear hn hm
    obtain ⟨R, hR⟩ : ∃ R, fstK (neP c L) 0 n = R := ⟨_, rfl⟩
    rw [hR]
    have HR := Lib.hid hR
    clear hR
    by_cases hmn : m = n
    · have hd : decide (m = n) = true := by simpa using hmn
      rw [hd]
      clear hd
      subst hmn
      have hnn : ((m : Int) != (m : Int)) = false := by simp
      go_enter Tryz.func17, Tryz.ntmps17
      go_wp2_with fail
      refine CS.out.mono ?_
      rintro e1 w1 ⟨v1, rfl, o1, k1⟩
      have R1 := Lib.hid (show RdI w1 v1 L from o1.rd)
      have RU1 := Lib.hid (RU.out.keep k1)
      obtain ⟨A1, c1, h1, -⟩ := R1.out
      rw [HL.out] at h1
      subst h1
      clear o1
      go_wp2_with fail
      go_loop [26] (fun iv => ∃ k : Nat, k ≤ m ∧ iv = .int .i64 k ∧ Hid (fstK (neP c L) k (m - k) = R)) (fun iv => m - (intOf iv).toNat)
      case atStart => exact ⟨0, by omega, rfl, HR⟩
      case round =>
        clear HR
        obtain ⟨k, hk, rfl, hE⟩ := hrel
        by_cases hlt : k < m
        · have hlt' : (k : Int) < m := by omega
          obtain ⟨x, hx⟩ : ∃ x, c[k]? = some x := ⟨c[k]'(by have := HM.out; omega), List.getElem?_eq_getElem _⟩
          obtain ⟨y, hy⟩ : ∃ y, L[k]? = some y := ⟨L[k]'(by have := HL.out; omega), List.getElem?_eq_getElem _⟩
          obtain ⟨ga, oa, ⟨za, qa⟩, cca⟩ := RU1.out.at_some (by have := HM.out; omega)
          obtain ⟨gb, ob, ⟨zb, qb⟩, ccb⟩ := R1.out.at_some (by have := HL.out; omega)
          simp only [Value.slice.injEq] at qa qb
          obtain ⟨rfl, -, -⟩ := qa
          obtain ⟨rfl, -, -⟩ := qb
          have a0 := cca k x hx
          have b0 := ccb k y hy
          have hP := neP_at hx hy
          clear cca ccb hx hy
          cases hxy : (x != y)
          · have HE2 : Hid (fstK (neP c L) (k + 1) (m - (k + 1)) = R) := Lib.hid (by rw [← fstK_no (hP.trans hxy) hlt]; exact hE.out)
            clear hP
            go_wp2_with fail
            go_round
            case rel => exact ⟨k + 1, by omega, by go_num, HE2⟩
            case measure => simp [intOf]; omega
          · have HE2 : Hid (R = k) := Lib.hid (by rw [← hE.out]; exact fstK_yes (hP.trans hxy) hlt)
            clear hP
            go_wp2_with fail
            go_ret2
            exact ⟨by rw [HE2.out]; rfl, k1⟩
        · obtain rfl : k = m := by omega
          have HE2 : Hid (R = k) := Lib.hid (by rw [← hE.out]; exact fstK_end)
          go_wp2_with fail
          go_ret2
          exact ⟨by rw [HE2.out]; rfl, k1⟩
    · have hd : decide (m = n) = false := by simpa using hmn
      rw [hd]
      clear hd
      have hne : ((m : Int) != (n : Int)) = true := by simpa using fun e : (m : Int) = n => hmn (by omega)
      go_enter Tryz.func17, Tryz.ntmps17
      go_wp2_with fail
      refine CS.out.mono ?_
      rintro e1 w1 ⟨v1, rfl, o1, k1⟩
      have R1 := Lib.hid (show RdI w1 v1 L from o1.rd)
      obtain ⟨A1, c1, h1, -⟩ := R1.out
      rw [HL.out] at h1
      subst h1
      clear o1
      go_wp2_with fail
      go_ret2
      exact ⟨rfl, k1⟩


end Go.Proofs.YtbohefollbmhkaaGreatDoor
