/-
  The reference's disk: the hexes in their order and true if all are valid, none and false otherwise. Nothing that was there is changed.
-/
import Derived.Test.YtmodcmkmfedgoaaDoorDisk
import Derived.Test.YtmodcmkmfedgoaaDoorHAll
import Derived.Test.YtmodcmkmfedgoaaDoorOwnB
namespace Go.Proofs.YtmodcmkmfedgoaaDoor
open Go.RowKit

set_option maxHeartbeats 4000000 in
theorem hDisk_any (q r : Int) (n : Nat) (w : World) (ha : okH q r = true) (hn6 : n ≤ 6) :
    Calls Tryd.prog 30 #[hx q r, .int .i64 n] w (NewPost (diskL n q r) w) := by
  have A1 := okH_true ha
  obtain ⟨i0, hi0, hz0, hs0, hb0⟩ := info_parts infoHex
  go_enter Tryd.func30, Tryd.ntmps30
  go_wp2_with fail
  go_loopw [5, 6] (fun v s6 wx => ∃ i : Nat, i ≤ 2 * n + 1 ∧ s6 = .int .i64 (q - n + i) ∧ OwnH wx (w.heap.size + 1) v (diskF n q r i) ∧ Hid (wx.cell? ⟨w.heap.size, 0, none⟩ = some (.int .i64 q) ∧ wx.cell? ⟨w.heap.size, 1, none⟩ = some (.int .i64 r)) ∧ Kp w wx) (fun _ s6 _ => (q + n + 1 - intOf s6).toNat)
  case atStart => exact ⟨0, by omega, by simp, OwnH.nil _ _, Lib.hid (by simp [go_sem]), (Kp.refl _).alloc _⟩
  case round =>
    obtain ⟨i, hi, rfl, hoR, hcR, kR⟩ := hrel
    have c2 := hcR.out
    by_cases hlt : i < 2 * n + 1
    · have hle : q - (n : Int) + i ≤ q + n := by omega
      have hdle : decide (q - (n : Int) + i ≤ q + n) = true := by simp; omega
      go_wp2_with fail
      go_loopw [5, 7] (fun v s7 wx => ∃ j : Nat, j ≤ 2 * n + 1 ∧ s7 = .int .i64 (r - n + j) ∧ OwnH wx (w.heap.size + 1) v (diskF n q r i ++ rowF n q r ((i : Int) - n) j) ∧ Hid (wx.cell? ⟨w.heap.size, 0, none⟩ = some (.int .i64 q) ∧ wx.cell? ⟨w.heap.size, 1, none⟩ = some (.int .i64 r)) ∧ Kp w wx) (fun _ s7 _ => (r + n + 1 - intOf s7).toNat)
      case atStart => exact ⟨0, by omega, by simp, by simpa [rowF] using hoR, hcR, kR⟩
      case round =>
        clear hoR hcR kR c2
        obtain ⟨j, hj, rfl, hoQ, hcQ, kQ⟩ := hrel
        have c2 := hcQ.out
        by_cases hltj : j < 2 * n + 1
        · have hlej : r - (n : Int) + j ≤ r + n := by omega
          have l2 := cell_lt c2.1
          have n2 : w.heap.size ≠ wr.heap.size := by omega
          have zz := kQ.size
          have hln : (diskF n q r i ++ rowF n q r ((i : Int) - n) j).length ≤ 1000 := by
            have := diskF_len n q r hn6 i
            have := rowF_len n q r ((i : Int) - n) j
            rw [List.length_append]
            omega
          have hD : decide (distH q r (q - n + i) (r - n + j) ≤ (n : Int)) = inD n ((i : Int) - n) ((j : Int) - n) := by
            rw [← dist_le n _ _ (by omega) (by omega)]
            unfold distH
            rw [show q - (n : Int) + i - q = (i : Int) - n from by omega, show r - (n : Int) + j - r = (j : Int) - n from by omega]
          have HO := Lib.hid hoQ
          have HL : Hid ((diskF n q r i ++ rowF n q r ((i : Int) - n) j).length ≤ 1000) := Lib.hid hln
          have HC := Lib.hid (show ∀ w, Calls Tryd.prog 37 #[hx q r, hx (q - n + i) (r - n + j)] w fun e w' => e = .returned (.int .i64 (distH q r (q - n + i) (r - n + j))) ∧ Kp w w' from fun w => hDistance_any _ _ _ _ w (by omega) (by omega) (by omega) (by omega) (by omega) (by omega) (by omega) (by omega))
          generalize distH q r (q - n + i) (r - n + j) = D at HC hD
          have HS := Lib.hid (show rowF n q r ((i : Int) - n) (j + 1) = rowF n q r ((i : Int) - n) j ++ oneF n q r ((i : Int) - n) ((j : Int) - n) from rfl)
          clear hoQ hcQ hln
          cases hin : inD n ((i : Int) - n) ((j : Int) - n)
          · rw [hin] at hD
            have HN := Lib.hid hin
            clear hin
            go_wp2_with fail
            refine (HC.out _).mono ?_
            rintro e w1 ⟨rfl, k1⟩
            have c3 := (((Kp.refl wr).alloc _).trans k1).two c2
            go_wp2_with fail
            go_roundw
            case rel =>
              refine ⟨j + 1, by omega, by go_num, ?_, Lib.hid c3, (kQ.alloc _).trans k1⟩
              have e : diskF n q r i ++ rowF n q r ((i : Int) - n) (j + 1) = diskF n q r i ++ rowF n q r ((i : Int) - n) j := by
                rw [HS.out, oneF, HN.out]; simp
              rw [e]
              exact (HO.out.keep ((Kp.refl wr).alloc _)).keep k1
            case measure => simp [intOf]; omega
          · rw [hin] at hD
            have HN := Lib.hid hin
            clear hin
            have hne2 := Lib.hid (HO.out.not (g := w.heap.size) (by omega))
            go_wp2_with fail
            refine (HC.out _).mono ?_
            rintro e w1 ⟨rfl, k1⟩
            have x0 : w1.cell? ⟨wr.heap.size, 0, none⟩ = some (.int .i64 (q - n + i)) := k1.cell (by simp [go_sem])
            have x1 : w1.cell? ⟨wr.heap.size, 1, none⟩ = some (.int .i64 (r - n + j)) := k1.cell (by simp [go_sem])
            have KA : Kp wr w1 := ((Kp.refl wr).alloc _).trans k1
            have c3 := KA.two c2
            have O1 := Lib.hid (HO.out.keep KA)
            have K2 : Kp w w1 := kQ.trans KA
            have zz2 := K2.size
            have l3 := cell_lt x0
            clear k1 c2
            go_wp2_with (at_builtin; refine wpList_append_own_at _ rfl (.tmp 41) (.tmp 43) 28 rfl (w.heap.size + 1) 25 i0 (hx 0 0) 2 16 Tryd.underlying28 hi0 hz0 hs0 hb0 rfl (by decide) u5 (diskF n q r i ++ rowF n q r ((i : Int) - n) j).length (cellsH (diskF n q r i ++ rowF n q r ((i : Int) - n) j)) rfl (World.ownsRow.alloc O1.out _) ⟨w1.heap.size, 0, none⟩ 1 1 [.int .i64 (q - n + i), .int .i64 (r - n + j)] rfl rfl (two_new _ _ _ _) (by simp [Value.oneCell']) (by have := HL.out; simp only [maxLen]; omega) (by have := HL.out; omega) (by simp; omega) ?_; intro v' w2 hown2 hgrow2 hnil2 hat2; clear hnil2; have kal : Kp w1 (w1.alloc (.cells #[.int .i64 (q - n + i), .int .i64 (r - n + j)] 25)) := (Kp.refl w1).alloc _; have q0 := hgrow2.cell (kal.cell c3.1) hne2.out; have q1 := hgrow2.cell (kal.cell c3.2) hne2.out; have K3 : Kp w w2 := (K2.trans kal).grown hgrow2 (fun k e => Nat.le_of_succ_le (World.ownsRow.lt O1.out k e).1); have O3 := Lib.hid (OwnH.snoc (x := (q - n + i, r - n + j)) hown2); clear hown2 hgrow2 hat2 kal c3)
            go_roundw
            case rel =>
              refine ⟨j + 1, by omega, by go_num, ?_, Lib.hid ⟨q0, q1⟩, K3⟩
              have e : diskF n q r i ++ rowF n q r ((i : Int) - n) (j + 1) = diskF n q r i ++ rowF n q r ((i : Int) - n) j ++ [(q - n + i, r - n + j)] := by
                rw [HS.out, oneF, HN.out, if_pos rfl, List.append_assoc, show q + ((i : Int) - n) = q - n + i from by omega, show r + ((j : Int) - n) = r - n + j from by omega]
              rw [e]
              exact O3.out
            case measure => simp [intOf]; omega
        · obtain rfl : j = 2 * n + 1 := by omega
          have hgt : ¬ r - (n : Int) + ((2 * n + 1 : Nat) : Int) ≤ r + n := by omega
          go_wp2_with fail
          go_roundw
          case rel => exact ⟨i + 1, by omega, by go_num, hoQ, hcQ, kQ⟩
          case measure => simp [intOf]; omega
    · obtain rfl : i = 2 * n + 1 := by omega
      have hgt : ¬ q - (n : Int) + ((2 * n + 1 : Nat) : Int) ≤ q + n := by omega
      go_wp2_with fail
      go_ret
      exact ⟨_, rfl, hoR.base (by omega), kR⟩

theorem specDiskOf_any (q r n : Int) (w : World) :
    Calls Tryd.prog 11 #[hx q r, .int .i64 n] w (ListPost (diskOk q r n) (diskL n.toNat q r) w) := by
  cases ha : okH q r
  · have e : diskOk q r n = false := by simp [diskOk, ha]
    rw [e]
    go_enter Tryd.func11, Tryd.ntmps11
    go_wp2_with fail
    refine (hGood_any _ _ _).mono ?_
    rintro e w1 ⟨rfl, k1⟩
    go_wp2_with fail
    go_ret2
    exact ListPost.no (((Kp.refl _).alloc _).trans k1)
  · cases hb : decide (0 ≤ n) && decide (n ≤ 6)
    · have e : diskOk q r n = false := by simp only [diskOk, hb, Bool.and_false, Bool.false_and]
      rw [e]
      have HB := Lib.hid hb
      clear hb
      go_enter Tryd.func11, Tryd.ntmps11
      go_wp2_with fail
      refine (hGood_any _ _ _).mono ?_
      rintro e w1 ⟨rfl, k1⟩
      go_wp2_with fail
      refine (l1In_gen _ _ _ _).mono ?_
      rintro e w2 ⟨rfl, rfl⟩
      rw [HB.out]
      go_wp2_with fail
      go_ret2
      exact ListPost.no (((Kp.refl _).alloc _).trans k1)
    · have e : diskOk q r n = allOk (diskL n.toNat q r) := by simp only [diskOk, ha, hb, Bool.true_and]
      rw [e]
      have HB := Lib.hid hb
      simp only [Bool.and_eq_true, decide_eq_true_eq] at hb
      obtain ⟨m, rfl⟩ := Int.eq_ofNat_of_zero_le hb.1
      rw [Int.toNat_natCast]
      have hm6 : m ≤ 6 := by omega
      have HC := Lib.hid (fun w => hDisk_any q r m w ha hm6)
      have HL : (diskL m q r).length ≤ 1000000 := by
        have := diskF_len m q r hm6 (2 * m + 1)
        unfold diskL
        omega
      generalize diskL m q r = L at HC HL ⊢
      clear e hb
      go_enter Tryd.func11, Tryd.ntmps11
      go_wp2_with fail
      refine (hGood_any _ _ _).mono ?_
      rintro e w1 ⟨rfl, k1⟩
      have b0 : w1.cell? ⟨w.heap.size, 0, none⟩ = some (.int .i64 q) := k1.cell (by simp [go_sem])
      have b1 : w1.cell? ⟨w.heap.size, 1, none⟩ = some (.int .i64 r) := k1.cell (by simp [go_sem])
      have K1 : Kp w w1 := ((Kp.refl _).alloc _).trans k1
      clear k1
      go_wp2_with fail
      refine (l1In_gen _ _ _ _).mono ?_
      rintro e w2 ⟨rfl, rfl⟩
      rw [HB.out]
      go_wp2_with fail
      refine (HC.out _).mono ?_
      rintro e w2 ⟨v, rfl, ho, k2⟩
      have HO := Lib.hid ho
      clear ho
      go_wp2_with fail
      refine (hAll_any v L _ HO.out.rd HL).mono ?_
      rintro e w3 ⟨rfl, k3⟩
      have K3 : Kp w w3 := (K1.trans k2).trans k3
      have z1 := K1.size
      cases hok : allOk L
      · go_wp2_with fail
        go_ret2
        rw [hok]
        exact ListPost.no K3
      · go_wp2_with fail
        go_ret2
        rw [hok]
        exact ⟨_, rfl, (HO.out.keep k3).base z1, K3⟩
end Go.Proofs.YtmodcmkmfedgoaaDoor
