/-
  The reference's ring: the hexes in their order and true if all are valid, none and false otherwise. Nothing that was there is changed.
-/
import Derived.Test.YtmodcmkmfedgoaaDoorRing
import Derived.Test.YtmodcmkmfedgoaaDoorHAll
import Derived.Test.YtmodcmkmfedgoaaDoorStep
import Derived.Deep.DeepCutAuto
namespace Go.Proofs.YtmodcmkmfedgoaaDoor
open Go.RowKit

theorem hRing_zero (q r : Int) (w : World) : Calls Tryd.prog 27 #[hx q r, .int .i64 0] w (NewPost [(q, r)] w) := by
  go_enter Tryd.func27, Tryd.ntmps27
  go_wp2_with fail
  go_ret
  have h := World.ownsRow_lit (base := w.heap.size) (e := 25) (size := 2) (w.alloc (.cells #[.int .i64 q, .int .i64 r] 25)) #[.int .i64 q, .int .i64 r] 1 (by simp) (by simp [maxLen]) rfl
  exact ⟨.slice (some ⟨w.heap.size + 1, 0, none⟩) 1 1, rfl, (by simp at h; exact h), ((Kp.refl _).alloc _).alloc _⟩

set_option maxHeartbeats 4000000 in
theorem hRing_pos (q r : Int) (n : Nat) (w : World) (ha : okH q r = true) (hn1 : 1 ≤ n) (hn6 : n ≤ 6) :
    Calls Tryd.prog 27 #[hx q r, .int .i64 n] w (NewPost (ringUp n q r (6 * n)) w) := by
  have A1 := okH_true ha
  have HBd := Lib.hid (posR_bd (n := n) (q := q) (r := r) hn6 (by omega) (by omega) (by omega) (by omega))
  have hne : ((n : Int) == 0) = false := by simp; omega
  obtain ⟨i0, hi0, hz0, hs0, hb0⟩ := info_parts infoHex
  go_enter Tryd.func27, Tryd.ntmps27
  go_wp2_with fail
  go_loopw [5] (fun s5 wr => ∃ k : Nat, k ≤ n ∧ s5 = .int .i64 k ∧ Hid (wr.cell? ⟨w.heap.size, 0, none⟩ = some (.int .i64 (q - k)) ∧ wr.cell? ⟨w.heap.size, 1, none⟩ = some (.int .i64 (r + k))) ∧ (wr.frozen? ⟨w.heap.size, 0, none⟩ = false ∧ wr.frozen? ⟨w.heap.size, 1, none⟩ = false) ∧ Kp w wr) (fun s5 _ => n - (intOf s5).toNat)
  case atStart => exact ⟨0, by omega, rfl, Lib.hid (by simp [go_sem]), by simp [go_sem], (Kp.refl _).alloc _⟩
  case round =>
    obtain ⟨k, hk, rfl, hcR, hfR, kR⟩ := hrel
    by_cases hlt : k < n
    · have hlt' : (k : Int) < n := by omega
      have c2 := hcR.out
      go_wp2_with fail
      refine (hStep_any _ _ _ _ (by omega) (by omega) (by omega) (by omega) (by omega) (by omega)).mono ?_
      rintro e w1 ⟨rfl, k1⟩
      have r0 := k1.liv ⟨c2.1, hfR.1⟩
      have r1 := k1.liv ⟨c2.2, hfR.2⟩
      go_wp2_with fail
      go_roundw
      case rel =>
        have e1 : q - (k : Int) + dirQ 4 = q - ((k + 1 : Nat) : Int) := by simp only [show dirQ 4 = -1 from by decide]; omega
        have e2 : r + (k : Int) + dirR 4 = r + ((k + 1 : Nat) : Int) := by simp only [show dirR 4 = 1 from by decide]; omega
        refine ⟨k + 1, by omega, by go_num, Lib.hid ?_, by simp [go_sem, *], ((kR.trans k1).setCell (by simp) _).setCell (by simp) _⟩
        rw [← e1, ← e2]
        exact ⟨by simp [go_sem, *], by simp [go_sem, *]⟩
      case measure => simp [intOf]; omega
    · obtain rfl : k = n := by omega
      have p0 : Hid (wr.cell? ⟨w.heap.size, 0, none⟩ = some (.int .i64 (posR k q r 0).1) ∧ wr.cell? ⟨w.heap.size, 1, none⟩ = some (.int .i64 (posR k q r 0).2)) := Lib.hid hcR.out
      clear hcR
      go_wp2_with fail
      go_loopw [6, 7] (fun v s7 wx => ∃ d : Nat, d ≤ 6 ∧ s7 = .int .i64 d ∧ OwnH wx w.heap.size v (ringUp k q r (d * k)) ∧ v.ownBlock ≠ some w.heap.size ∧ Hid (wx.cell? ⟨w.heap.size, 0, none⟩ = some (.int .i64 (posR k q r (d * k)).1) ∧ wx.cell? ⟨w.heap.size, 1, none⟩ = some (.int .i64 (posR k q r (d * k)).2)) ∧ (wx.frozen? ⟨w.heap.size, 0, none⟩ = false ∧ wx.frozen? ⟨w.heap.size, 1, none⟩ = false) ∧ Kp w wx) (fun _ s7 _ => 6 - (intOf s7).toNat)
      case atStart => exact ⟨0, by omega, rfl, by simpa [ringUp] using OwnH.nil wr w.heap.size, by simp [Value.ownBlock], by simpa using p0, hfR, kR⟩
      case round =>
        clear p0 hfR kR
        obtain ⟨d, hd, rfl, hoR, hneR, hcR, hfR, kR⟩ := hrel
        by_cases hltd : d < 6
        · have hd6 : decide ((d : Int) < 6) = true := by simp; omega
          go_wp2_with fail
          go_loopw [6, 8] (fun v s8 wx => ∃ j : Nat, j ≤ k ∧ s8 = .int .i64 j ∧ OwnH wx w.heap.size v (ringUp k q r (d * k + j)) ∧ v.ownBlock ≠ some w.heap.size ∧ Hid (wx.cell? ⟨w.heap.size, 0, none⟩ = some (.int .i64 (posR k q r (d * k + j)).1) ∧ wx.cell? ⟨w.heap.size, 1, none⟩ = some (.int .i64 (posR k q r (d * k + j)).2)) ∧ (wx.frozen? ⟨w.heap.size, 0, none⟩ = false ∧ wx.frozen? ⟨w.heap.size, 1, none⟩ = false) ∧ Kp w wx) (fun _ s8 _ => k - (intOf s8).toNat)
          case atStart => exact ⟨0, by omega, rfl, hoR, hneR, hcR, hfR, kR⟩
          case round =>
            clear hoR hneR hcR hfR kR
            obtain ⟨j, hj, rfl, hoQ, hneQ, hcQ, hfQ, kQ⟩ := hrel
            by_cases hltj : j < k
            · have hltj' : (j : Int) < k := by omega
              have pb := HBd.out (d * k + j)
              have hdn : d * k + j < 6 * k := by
                have : d * k ≤ 5 * k := Nat.mul_le_mul_right k (by omega)
                omega
              have hst := Lib.hid (posR_step k q r d j hltj)
              have hup := Lib.hid (ringUp_succ k q r (d * k + j))
              have hln := Lib.hid (ringUp_length k q r (d * k + j))
              obtain ⟨px, py, hpx⟩ : ∃ px py, posR k q r (d * k + j) = (px, py) := ⟨_, _, rfl⟩
              have HP := Lib.hid hpx
              rw [hpx] at pb
              simp only at pb
              clear hpx
              have c2 : wr.cell? ⟨w.heap.size, 0, none⟩ = some (.int .i64 px) ∧ wr.cell? ⟨w.heap.size, 1, none⟩ = some (.int .i64 py) := by have := hcQ.out; rw [HP.out] at this; exact this
              have hoP : wr.ownsRow w.heap.size 25 2 u6 (ringUp k q r (d * k + j)).length (cellsH (ringUp k q r (d * k + j))) := hoQ
              have l2 := cell_lt c2.1
              have n2 : w.heap.size ≠ wr.heap.size := by omega
              have zz := kQ.size
              have HO := Lib.hid hoP
              have HQ := Lib.hid hneQ
              clear hcQ hoQ hoP hneQ
              go_wp2_with (first
                | (at_builtin; refine wpList_append_own_at _ rfl (.tmp 29) (.tmp 31) 28 rfl w.heap.size 25 i0 (hx 0 0) 2 16 Tryd.underlying28 hi0 hz0 hs0 hb0 rfl (by decide) u6 (ringUp k q r (d * k + j)).length (cellsH (ringUp k q r (d * k + j))) rfl (HO.out.alloc _) ⟨wr.heap.size, 0, none⟩ 1 1 [.int .i64 px, .int .i64 py] rfl rfl (two_new _ _ _ _) (by simp [Value.oneCell']) (by rw [hln.out]; simp only [maxLen]; omega) (by rw [hln.out]; omega) (by simp; omega) ?_; intro v' w2 hown2 hgrow2 hnil2 hat2; clear hnil2; have kal : Kp wr (wr.alloc (.cells #[.int .i64 px, .int .i64 py] 25)) := (Kp.refl wr).alloc _; have q0 := hgrow2.cell (kal.cell c2.1) (fun e => HQ.out e.symm); have q1 := hgrow2.cell (kal.cell c2.2) (fun e => HQ.out e.symm); have q4 := grown_frozen hgrow2 (kal.cell c2.1) (fun e => HQ.out e.symm) (kal.liv ⟨c2.1, hfQ.1⟩).2; have q5 := grown_frozen hgrow2 (kal.cell c2.2) (fun e => HQ.out e.symm) (kal.liv ⟨c2.2, hfQ.2⟩).2; have K3 : Kp w w2 := (kQ.trans kal).grown hgrow2 (fun k e => (World.ownsRow.lt HO.out k e).1); have N2 := Lib.hid (show v'.ownBlock ≠ some w.heap.size from (by rcases hat2 with e | e <;> rw [e]; exact HQ.out; simp; omega)); have O3 := Lib.hid (OwnH.snoc (x := (px, py)) hown2); clear hown2 hgrow2 hat2 kal c2 hfQ)
                | (go_at_call 35; refine (hStep_any _ _ _ _ (by omega) (by omega) (by omega) (by omega) (by omega) (by omega)).mono ?_; rintro e w3 ⟨rfl, k3⟩; have r0 := k3.liv ⟨q0, q4⟩; have r1 := k3.liv ⟨q1, q5⟩))
              go_roundw
              case rel =>
                have O4 : OwnH w3 w.heap.size v' (ringUp k q r (d * k + j) ++ [(px, py)]) := O3.out.keep k3
                refine ⟨j + 1, by omega, by go_num, ?_, N2.out, ?_, ?_, ?_⟩
                · have e : ringUp k q r (d * k + (j + 1)) = ringUp k q r (d * k + j) ++ [(px, py)] := by rw [← Nat.add_assoc, hup.out, HP.out]
                  rw [e]
                  exact (O4.far N2.out _).far N2.out _
                · have e : posR k q r (d * k + (j + 1)) = (px + dirQ d, py + dirR d) := by rw [← Nat.add_assoc, hst.out, HP.out]
                  rw [e]
                  exact Lib.hid ⟨by simp [go_sem, *], by simp [go_sem, *]⟩
                · exact ⟨by simp [go_sem, *], by simp [go_sem, *]⟩
                · exact ((K3.trans k3).setCell (by simp) _).setCell (by simp) _
              case measure => simp [intOf]; omega
            · obtain rfl : j = k := by omega
              go_wp2_with fail
              go_roundw
              case rel =>
                have e : (d + 1) * j = d * j + j := by rw [Nat.succ_mul]
                exact ⟨d + 1, by omega, by go_num, by rw [e]; exact hoQ, hneQ, by rw [e]; exact hcQ, hfQ, kQ⟩
              case measure => simp [intOf]; omega
        · obtain rfl : d = 6 := by omega
          go_wp2_with fail
          go_ret
          exact ⟨_, rfl, hoR, kR⟩

theorem specRingOf_any (q r n : Int) (w : World) :
    Calls Tryd.prog 7 #[hx q r, .int .i64 n] w (ListPost (ringOk q r n) (ringL n.toNat q r) w) := by
  cases ha : okH q r
  · have e : ringOk q r n = false := by simp [ringOk, ha]
    rw [e]
    go_enter Tryd.func7, Tryd.ntmps7
    go_wp2_with fail
    refine (hGood_any _ _ _).mono ?_
    rintro e w1 ⟨rfl, k1⟩
    go_wp2_with fail
    go_ret2
    exact ListPost.no (((Kp.refl _).alloc _).trans k1)
  · cases hb : decide (0 ≤ n) && decide (n ≤ 6)
    · have e : ringOk q r n = false := by simp only [ringOk, hb, Bool.and_false, Bool.false_and]
      rw [e]
      have HB := Lib.hid hb
      clear hb
      go_enter Tryd.func7, Tryd.ntmps7
      go_wp2_with fail
      refine (hGood_any _ _ _).mono ?_
      rintro e w1 ⟨rfl, k1⟩
      go_wp2_with fail
      refine (l1In_gen _ _ _ _).mono ?_
      rintro e w2 ⟨rfl, rfl⟩
      rw [HB.out]
      go_wp2_with fail
      go_ret2
      exact ListPost.no (((Kp.refl _).alloc _).trans k1)
    · have e : ringOk q r n = allOk (ringL n.toNat q r) := by simp only [ringOk, ha, hb, Bool.true_and]
      rw [e]
      have HB := Lib.hid hb
      simp only [Bool.and_eq_true, decide_eq_true_eq] at hb
      obtain ⟨m, rfl⟩ := Int.eq_ofNat_of_zero_le hb.1
      rw [Int.toNat_natCast]
      have hm6 : m ≤ 6 := by omega
      have HC := Lib.hid (show ∀ w, Calls Tryd.prog 27 #[hx q r, .int .i64 m] w (NewPost (ringL m q r) w) from fun w => by
        unfold ringL
        by_cases h0 : m = 0
        · subst h0
          exact hRing_zero q r w
        · rw [if_neg h0]
          exact hRing_pos q r m w ha (by omega) hm6)
      have HL : (ringL m q r).length ≤ 1000000 := by
        unfold ringL
        split
        · simp
        · rw [ringUp_length]; omega
      generalize ringL m q r = L at HC HL ⊢
      clear e hb
      go_enter Tryd.func7, Tryd.ntmps7
      go_wp2_with fail
      refine (hGood_any _ _ _).mono ?_
      rintro e w1 ⟨rfl, k1⟩
      have b0 : w1.cell? ⟨w.heap.size, 0, none⟩ = some (.int .i64 q) := k1.cell (by simp [go_sem])
      have b1 : w1.cell? ⟨w.heap.size, 1, none⟩ = some (.int .i64 r) := k1.cell (by simp [go_sem])
      have K1 : Kp w w1 := ((Kp.refl _).alloc _).trans k1
      clear k1
      go_wp2_with fail
      refine (l1In_gen _ _ _ _).mono ?_
      rintro e w2 ⟨rfl, rfl⟩
      rw [HB.out]
      go_wp2_with fail
      refine (HC.out _).mono ?_
      rintro e w2 ⟨v, rfl, ho, k2⟩
      have HO := Lib.hid ho
      clear ho
      go_wp2_with fail
      refine (hAll_any v L _ HO.out.rd HL).mono ?_
      rintro e w3 ⟨rfl, k3⟩
      have K3 : Kp w w3 := (K1.trans k2).trans k3
      have z1 := K1.size
      cases hok : allOk L
      · go_wp2_with fail
        go_ret2
        rw [hok]
        exact ListPost.no K3
      · go_wp2_with fail
        go_ret2
        have ho := HO.out.keep k3
        rw [hok]
        refine ⟨_, rfl, ?_, K3⟩
        refine ⟨ho.1, ?_⟩
        rcases ho.2 with h | ⟨g, cap, cur, h1, h2, h3⟩
        · exact .inl h
        · exact .inr ⟨g, cap, cur, h1, by omega, h3⟩
end Go.Proofs.YtmodcmkmfedgoaaDoor
