/-
  The program's disk: the hexes in their order and true if all are valid, none and false otherwise. Nothing that was there is changed.
-/
import Derived.Test.YtmodcmkmfedgoaaDoorDiskSpec
namespace Go.Proofs.YtmodcmkmfedgoaaDoor
open Go.RowKit

set_option maxHeartbeats 4000000 in
theorem diskOf_yes (q r : Int) (n : Nat) (w : World) (ha : okH q r = true) (hn6 : n ≤ 6) :
    Calls Tryd.prog 10 #[hx q r, .int .i64 n] w (ListPost (allOk (diskL n q r)) (diskL n q r) w) := by
  have A1 := okH_true ha
  have HB := Lib.hid (show (decide (0 ≤ (n : Int)) && decide ((n : Int) ≤ 6)) = true by simp; omega)
  obtain ⟨i0, hi0, hz0, hs0, hb0⟩ := info_parts infoHex
  go_enter Tryd.func10, Tryd.ntmps10
  go_wp2_with fail
  refine (isHex_any _ _ _).mono ?_
  rintro e wa ⟨rfl, ka⟩
  have b0 : wa.cell? ⟨w.heap.size, 0, none⟩ = some (.int .i64 q) := ka.cell (by simp [go_sem])
  have b1 : wa.cell? ⟨w.heap.size, 1, none⟩ = some (.int .i64 r) := ka.cell (by simp [go_sem])
  have K1 : Kp w wa := ((Kp.refl _).alloc _).trans ka
  clear ka
  go_wp2_with fail
  refine (isRadius_any _ _).mono ?_
  rintro e w2 ⟨rfl, rfl⟩
  rw [HB.out]
  go_wp2_with fail
  go_loopw [6, 7] (fun v s7 wx => ∃ i : Nat, i ≤ 2 * n + 1 ∧ s7 = .int .i64 ((i : Int) - n) ∧ OwnH wx (w.heap.size + 1) v (diskF n q r i) ∧ Hid (allOk (diskF n q r i) = true) ∧ Hid (wx.cell? ⟨w.heap.size, 0, none⟩ = some (.int .i64 q) ∧ wx.cell? ⟨w.heap.size, 1, none⟩ = some (.int .i64 r)) ∧ Kp w wx) (fun _ s7 _ => (n + 1 - intOf s7).toNat)
  case atStart => exact ⟨0, by omega, by simp, OwnH.nil _ _, Lib.hid rfl, Lib.hid ⟨b0, b1⟩, K1⟩
  case round =>
    clear b0 b1 K1
    obtain ⟨i, hi, rfl, hoR, hokR, hcR, kR⟩ := hrel
    by_cases hlt : i < 2 * n + 1
    · have hle : (i : Int) - n ≤ n := by omega
      have hdle : decide ((i : Int) - n ≤ n) = true := by simp; omega
      obtain ⟨jlo, jhi, hJlo, hJhi, hlh, hjb⟩ : ∃ jlo jhi : Nat, ((jlo : Int) - n = max (-(n : Int)) (-(n : Int) - ((i : Int) - n))) ∧ ((jhi : Int) - n = min (n : Int) ((n : Int) - ((i : Int) - n))) ∧ jlo ≤ jhi ∧ jhi ≤ 2 * n := by
        by_cases h : i ≤ n
        · exact ⟨n - i, 2 * n, by omega, by omega, by omega, by omega⟩
        · exact ⟨0, 3 * n - i, by omega, by omega, by omega, by omega⟩
      have tri : ((i : Int) < n ∧ (i : Int) ≤ n) ∨ ((i : Int) ≤ n ∧ (n : Int) ≤ i) ∨ ((n : Int) < i ∧ (n : Int) ≤ i) := by omega
      have HJlo := Lib.hid hJlo
      have HJhi := Lib.hid hJhi
      have hst : Hid (rowF n q r ((i : Int) - n) jlo = []) := Lib.hid (rowF_none n q r _ jlo fun t ht => inD_false (by omega))
      have hen : Hid (rowF n q r ((i : Int) - n) (2 * n + 1) = rowF n q r ((i : Int) - n) (jhi + 1)) := Lib.hid (rowF_ext n q r _ (jhi + 1) (2 * n + 1) (by omega) fun t h1 h2 => inD_false (by omega))
      have hinD : Hid (∀ j : Nat, jlo ≤ j → j ≤ jhi → inD n ((i : Int) - n) ((j : Int) - n) = true) := Lib.hid fun j h1 h2 => inD_true.2 (by omega)
      clear hJlo hJhi
      rcases tri with ⟨t1, t2⟩ | ⟨t1, t2⟩ | ⟨t1, t2⟩
      all_goals
        go_wp2_with fail
        go_loopw [6, 8] (fun v s8 wx => ∃ j : Nat, jlo ≤ j ∧ j ≤ jhi + 1 ∧ s8 = .int .i64 ((j : Int) - n) ∧ OwnH wx (w.heap.size + 1) v (diskF n q r i ++ rowF n q r ((i : Int) - n) j) ∧ Hid (allOk (diskF n q r i ++ rowF n q r ((i : Int) - n) j) = true) ∧ Hid (wx.cell? ⟨w.heap.size, 0, none⟩ = some (.int .i64 q) ∧ wx.cell? ⟨w.heap.size, 1, none⟩ = some (.int .i64 r)) ∧ Kp w wx) (fun _ s8 _ => (jhi + 1 - n - intOf s8).toNat)
        case atStart =>
          have hJ := HJlo.out
          exact ⟨jlo, Nat.le_refl _, by omega, by congr 1; omega, by rw [hst.out, List.append_nil]; exact hoR, by rw [hst.out, List.append_nil]; exact hokR, hcR, kR⟩
        case round =>
          clear hoR hokR hcR kR
          obtain ⟨j, hj1, hj2, rfl, hoQ, hokQ, hcQ, kQ⟩ := hrel
          have c2 := hcQ.out
          by_cases hltj : j ≤ jhi
          · obtain ⟨hle1, hle2, hle3⟩ : (j : Int) - n ≤ n ∧ (j : Int) - n ≤ n - ((i : Int) - n) ∧ -(n : Int) ≤ (j : Int) - n := by have := HJhi.out; omega
            have l2 := cell_lt c2.1
            have zz := kQ.size
            have hln : Hid ((diskF n q r i ++ rowF n q r ((i : Int) - n) j).length ≤ 1000) := Lib.hid (by
              have := diskF_len n q r hn6 i
              have := rowF_len n q r ((i : Int) - n) j
              rw [List.length_append]
              omega)
            have HO := Lib.hid hoQ
            have HS := Lib.hid (show rowF n q r ((i : Int) - n) (j + 1) = rowF n q r ((i : Int) - n) j ++ [(q + ((i : Int) - n), r + ((j : Int) - n))] by rw [rowF, oneF, hinD.out j hj1 hltj]; rfl)
            have hne2 := Lib.hid (HO.out.not (g := w.heap.size) (by omega))
            clear hoQ hcQ
            go_wp2_with fail
            refine (shifted_any _ _ _ _ _ (by omega) (by omega) (by omega) (by omega) (by omega) (by omega) (by omega) (by omega)).mono ?_
            rintro e w1 ⟨rfl, k1⟩
            have c3 := k1.two c2
            clear c2
            cases hok : okH (q + ((i : Int) - n)) (r + ((j : Int) - n))
            · go_wp2_with fail
              refine (isHex_any _ _ _).mono ?_
              rintro e w2 ⟨rfl, k2⟩
              go_wp2_with fail
              go_ret2
              rw [show allOk (diskL n q r) = false from allOk_mem (diskF_mem n q r i j (by omega) (hinD.out j hj1 hltj) (2 * n + 1) (by omega)) hok]
              exact ListPost.no (((kQ.trans k1).alloc _).trans k2)
            · have HOk := Lib.hid hok
              go_wp2_with fail
              refine (isHex_any _ _ _).mono ?_
              rintro e w2 ⟨rfl, k2⟩
              have x0 : w2.cell? ⟨w1.heap.size, 0, none⟩ = some (.int .i64 (q + ((i : Int) - n))) := k2.cell (by simp [go_sem])
              have x1 : w2.cell? ⟨w1.heap.size, 1, none⟩ = some (.int .i64 (r + ((j : Int) - n))) := k2.cell (by simp [go_sem])
              have KB : Kp w1 w2 := ((Kp.refl w1).alloc _).trans k2
              have c4 := KB.two c3
              have O1 := Lib.hid (HO.out.keep (k1.trans KB))
              have K2 : Kp w w2 := (kQ.trans k1).trans KB
              have zz2 := K2.size
              have l3 := cell_lt x0
              have l4 := cell_lt c4.1
              clear k2 c3
              go_wp2_with (at_builtin; refine wpList_append_own_at _ rfl (.tmp 49) (.tmp 51) 28 rfl (w.heap.size + 1) 25 i0 (hx 0 0) 2 16 Tryd.underlying28 hi0 hz0 hs0 hb0 rfl (by decide) u6 (diskF n q r i ++ rowF n q r ((i : Int) - n) j).length (cellsH (diskF n q r i ++ rowF n q r ((i : Int) - n) j)) rfl (World.ownsRow.alloc O1.out _) ⟨w2.heap.size, 0, none⟩ 1 1 [.int .i64 (q + ((i : Int) - n)), .int .i64 (r + ((j : Int) - n))] rfl rfl (two_new _ _ _ _) (by simp [Value.oneCell']) (by have := hln.out; simp only [maxLen]; omega) (by have := hln.out; omega) (by simp; omega) ?_; intro v' w3 hown2 hgrow2 hnil2 hat2; clear hnil2; have kal : Kp w2 (w2.alloc (.cells #[.int .i64 (q + ((i : Int) - n)), .int .i64 (r + ((j : Int) - n))] 25)) := (Kp.refl w2).alloc _; have q0 := hgrow2.cell (kal.cell c4.1) hne2.out; have q1 := hgrow2.cell (kal.cell c4.2) hne2.out; have K3 : Kp w w3 := (K2.trans kal).grown hgrow2 (fun k e => Nat.le_of_succ_le (World.ownsRow.lt O1.out k e).1); have O3 := Lib.hid (OwnH.snoc (x := (q + ((i : Int) - n), r + ((j : Int) - n))) hown2); clear hown2 hgrow2 hat2 kal c4)
              go_roundw
              case rel =>
                have e : diskF n q r i ++ rowF n q r ((i : Int) - n) (j + 1) = diskF n q r i ++ rowF n q r ((i : Int) - n) j ++ [(q + ((i : Int) - n), r + ((j : Int) - n))] := by rw [HS.out, List.append_assoc]
                refine ⟨j + 1, by omega, by omega, by go_num, ?_, ?_, Lib.hid ⟨q0, q1⟩, K3⟩
                · rw [e]
                  exact O3.out
                · rw [e, allOk_append, hokQ.out]
                  exact Lib.hid (by simp [allOk, HOk.out])
              case measure => simp [intOf]; omega
          · obtain rfl : j = jhi + 1 := by omega
            obtain ⟨hgt1, hgt2⟩ : ((i : Int) ≤ n → ¬ ((jhi + 1 : Nat) : Int) - n ≤ n) ∧ ((n : Int) ≤ i → ¬ ((jhi + 1 : Nat) : Int) - n ≤ n - ((i : Int) - n)) := by have := HJhi.out; omega
            go_wp2_with fail
            go_roundw
            case rel => exact ⟨i + 1, by omega, by go_num, by rw [diskF, hen.out]; exact hoQ, by rw [diskF, hen.out]; exact hokQ, hcQ, kQ⟩
            case measure => simp [intOf]; omega
    · obtain rfl : i = 2 * n + 1 := by omega
      have hgt : ¬ ((2 * n + 1 : Nat) : Int) - n ≤ n := by omega
      go_wp2_with fail
      go_ret2
      rw [show allOk (diskL n q r) = true from hokR.out]
      exact ⟨_, rfl, hoR.base (by omega), kR⟩

theorem diskOf_any (q r n : Int) (w : World) :
    Calls Tryd.prog 10 #[hx q r, .int .i64 n] w (ListPost (diskOk q r n) (diskL n.toNat q r) w) := by
  cases ha : okH q r
  · have e : diskOk q r n = false := by simp [diskOk, ha]
    rw [e]
    go_enter Tryd.func10, Tryd.ntmps10
    go_wp2_with fail
    refine (isHex_any _ _ _).mono ?_
    rintro e w1 ⟨rfl, k1⟩
    go_wp2_with fail
    go_ret2
    exact ListPost.no (((Kp.refl _).alloc _).trans k1)
  · cases hb : decide (0 ≤ n) && decide (n ≤ 6)
    · have e : diskOk q r n = false := by simp only [diskOk, hb, Bool.and_false, Bool.false_and]
      rw [e]
      have HB := Lib.hid hb
      clear hb
      go_enter Tryd.func10, Tryd.ntmps10
      go_wp2_with fail
      refine (isHex_any _ _ _).mono ?_
      rintro e w1 ⟨rfl, k1⟩
      go_wp2_with fail
      refine (isRadius_any _ _).mono ?_
      rintro e w2 ⟨rfl, rfl⟩
      rw [HB.out]
      go_wp2_with fail
      go_ret2
      exact ListPost.no (((Kp.refl _).alloc _).trans k1)
    · have e : diskOk q r n = allOk (diskL n.toNat q r) := by simp only [diskOk, ha, hb, Bool.true_and]
      rw [e]
      simp only [Bool.and_eq_true, decide_eq_true_eq] at hb
      obtain ⟨m, rfl⟩ := Int.eq_ofNat_of_zero_le hb.1
      rw [Int.toNat_natCast]
      exact diskOf_yes q r m w ha (by omega)
end Go.Proofs.YtmodcmkmfedgoaaDoor
