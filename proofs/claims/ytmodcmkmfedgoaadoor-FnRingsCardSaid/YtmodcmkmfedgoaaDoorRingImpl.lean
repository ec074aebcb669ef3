/-
  The program's ring: the hexes in their order and true if all are valid, none and false otherwise. Nothing that was there is changed.
-/
import Derived.Test.YtmodcmkmfedgoaaDoorRing
import Derived.Test.YtmodcmkmfedgoaaDoorDirTo
import Derived.Deep.DeepCutAuto
namespace Go.Proofs.YtmodcmkmfedgoaaDoor
open Go.RowKit

theorem isRadius_any (n : Int) (w : World) :
    Calls Tryd.prog 21 #[.int .i64 n] w fun e w' => e = .returned (.bool (decide (0 ≤ n) && decide (n ≤ 6))) ∧ w = w' := by
  by_cases h1 : 0 ≤ n
  · by_cases h2 : n ≤ 6
    · go_enter Tryd.func21, Tryd.ntmps21
      go_wp2
      go_ret
      exact ⟨ret_bool (by simp [h1, h2]), rfl⟩
    · go_enter Tryd.func21, Tryd.ntmps21
      go_wp2
      go_ret
      exact ⟨ret_bool (by simp; omega), rfl⟩
  · go_enter Tryd.func21, Tryd.ntmps21
    go_wp2
    go_ret
    exact ⟨ret_bool (by simp; omega), rfl⟩

theorem times4_any (n : Int) (w : World) (h0 : 0 ≤ n) (h6 : n ≤ 6) :
    Calls Tryd.prog 23 #[hx (-1) 1, .int .i64 n] w fun e w' => e = .returned (hx (-n) n) ∧ Kp w w' := by
  go_enter Tryd.func23, Tryd.ntmps23
  go_wp2
  exact bodyPost_ret (v := hx (-n) n) (by simp [results, Tryd.results23, go_sem]) rfl ⟨rfl, ((Kp.refl _).alloc _).alloc _⟩

set_option maxHeartbeats 4000000 in
theorem ringOf_pos (q r : Int) (n : Nat) (w : World) (ht : Tab w) (ha : okH q r = true) (hn1 : 1 ≤ n) (hn6 : n ≤ 6) :
    Calls Tryd.prog 6 #[hx q r, .int .i64 n] w (ListPost (allOk (ringUp n q r (6 * n))) (ringUp n q r (6 * n)) w) := by
  have A1 := okH_true ha
  have HBd := Lib.hid (posR_bd (n := n) (q := q) (r := r) hn6 (by omega) (by omega) (by omega) (by omega))
  have HT := Lib.hid ht
  have HB := Lib.hid (show (decide (0 ≤ (n : Int)) && decide ((n : Int) ≤ 6)) = true by simp; omega)
  have hne : ((n : Int) == 0) = false := by simp; omega
  have hmk := fun w => mkRing n hn6 w
  obtain ⟨i0, hi0, hz0, hs0, hb0⟩ := info_parts infoHex
  clear ht
  go_enter Tryd.func6, Tryd.ntmps6
  go_wp2_with fail
  refine (isHex_any _ _ _).mono ?_
  rintro e wa ⟨rfl, ka⟩
  have b0 : wa.cell? ⟨w.heap.size, 0, none⟩ = some (.int .i64 q) := ka.cell (by simp [go_sem])
  have b1 : wa.cell? ⟨w.heap.size, 1, none⟩ = some (.int .i64 r) := ka.cell (by simp [go_sem])
  have l0 := cell_lt b0
  have K1 : Kp w wa := ((Kp.refl _).alloc _).trans ka
  clear ka
  go_wp2_with fail
  refine (isRadius_any _ _).mono ?_
  rintro e w2 ⟨rfl, rfl⟩
  rw [HB.out]
  go_wp2_with fail
  have t12 := (HT.out.keep K1).twelve
  have nb : w.heap.size ≠ wa.heap.size := by omega
  have g0 : 0 < wa.heap.size := cell_lt t12.1
  have hs1 : (wa.alloc (.cells (madeCells #[.int .i64 0, .int .i64 0] (n * 6 * 2)) 25)).cell? ⟨w.heap.size, 0, none⟩ = some (.int .i64 q) ∧ (wa.alloc (.cells (madeCells #[.int .i64 0, .int .i64 0] (n * 6 * 2)) 25)).cell? ⟨w.heap.size, 1, none⟩ = some (.int .i64 r) ∧ (wa.alloc (.cells (madeCells #[.int .i64 0, .int .i64 0] (n * 6 * 2)) 25)).cell? ⟨0, 8, none⟩ = some (.int .i64 (-1)) ∧ (wa.alloc (.cells (madeCells #[.int .i64 0, .int .i64 0] (n * 6 * 2)) 25)).cell? ⟨0, 9, none⟩ = some (.int .i64 1) := by
    have hk : Kp wa (wa.alloc (.cells (madeCells #[.int .i64 0, .int .i64 0] (n * 6 * 2)) 25)) := (Kp.refl _).alloc _
    exact ⟨hk.cell b0, hk.cell b1, hk.cell t12.2.2.2.2.2.2.2.2.1, hk.cell t12.2.2.2.2.2.2.2.2.2.1⟩
  have ho : OwnH (wa.alloc (.cells (madeCells #[.int .i64 0, .int .i64 0] (n * 6 * 2)) 25)) w.heap.size (.slice (some ⟨wa.heap.size, 0, none⟩) 0 (n * 6)) [] :=
    World.ownsRow_made wa _ (n * 6) (by omega) (by simp only [maxLen]; omega) (size_madeCells _ _)
  have hkm : Kp w (wa.alloc (.cells (madeCells #[.int .i64 0, .int .i64 0] (n * 6 * 2)) 25)) := K1.alloc _
  have hlm : wa.heap.size < (wa.alloc (.cells (madeCells #[.int .i64 0, .int .i64 0] (n * 6 * 2)) 25)).heap.size := by simp
  generalize wa.alloc (.cells (madeCells #[.int .i64 0, .int .i64 0] (n * 6 * 2)) 25) = Wm at *
  have hlz : w.heap.size < Wm.heap.size ∧ 0 < Wm.heap.size := by omega
  clear t12 hmk b0 b1
  go_upto_region 6 with fail
  go_cut [7] (fun s7 wx => ∃ g : Nat, s7 = .pointer (some ⟨g, 0, none⟩) ∧ (wx.cell? ⟨g, 0, none⟩ = some (.int .i64 (q + -(n : Int))) ∧ wx.cell? ⟨g, 1, none⟩ = some (.int .i64 (r + n))) ∧ (wx.frozen? ⟨g, 0, none⟩ = false ∧ wx.frozen? ⟨g, 1, none⟩ = false) ∧ Kp Wm wx ∧ Wm.heap.size ≤ g ∧ g < wx.heap.size)
  case first =>
    go_region_held3 (fun w' => w'.cell? ⟨w.heap.size, 0, none⟩ = some (.int .i64 q) ∧ w'.cell? ⟨w.heap.size, 1, none⟩ = some (.int .i64 r) ∧ w'.cell? ⟨0, 8, none⟩ = some (.int .i64 (-1)) ∧ w'.cell? ⟨0, 9, none⟩ = some (.int .i64 1)) (first | assumption | exact far_four (by omega) (by assumption) | go_keep)
      (first
        | (go_at_call 23; refine (times4_any _ _ (by omega) (by omega)).mono ?_; rintro e wp ⟨rfl, kp⟩; have sp := kp.four (by assumption); obtain ⟨cp, fp⟩ := kp.cells; have zp := kp.size; (try simp at zp); (try have ypW : Wm.heap.size < wp.heap.size := (by omega)))
        | (go_at_call 22; refine (shifted_any _ _ _ _ _ (by omega) (by omega) (by omega) (by omega) (by omega) (by omega) (by omega) (by omega)).mono ?_; rintro e wz ⟨rfl, kz⟩; have sz := kz.four (by assumption); obtain ⟨cz, fz⟩ := kz.cells; have zz := kz.size; (try simp at zz); (try have yzW : Wm.heap.size < wz.heap.size := (by omega)); (try have yzp : wp.heap.size < wz.heap.size := (by omega))))
    all_goals
      go_wp2_with fail
      go_meet
      exact ⟨_, rfl, ⟨by simp [go_sem, *], by simp [go_sem, *]⟩, ⟨by simp [go_sem, *], by simp [go_sem, *]⟩, by repeat (first | exact Kp.refl _ | refine Kp.alloc ?_ _ | refine Kp.setCell ?_ (by first | (simp; done) | (simp; omega) | omega) _ | refine Kp.drew ?_ | refine Kp.trans ?_ (by assumption)), by first | (simp; done) | (simp; omega) | omega, by first | (simp; done) | (simp; omega) | omega⟩
  case rest =>
    obtain ⟨b7, rfl, hc7, hf7, hk7, hlo7, hhi7⟩ := hcut
    have t12 := (HT.out.keep (hkm.trans hk7)).twelve
    have p0 : Hid (wc.cell? ⟨b7, 0, none⟩ = some (.int .i64 (posR n q r 0).1) ∧ wc.cell? ⟨b7, 1, none⟩ = some (.int .i64 (posR n q r 0).2)) := Lib.hid (by simpa [posR, Int.sub_eq_add_neg] using hc7)
    have ho7 : OwnH wc w.heap.size (.slice (some ⟨wa.heap.size, 0, none⟩) 0 (n * 6)) (ringUp n q r 0) := ho.keep hk7
    have hw7 : Kp w wc := hkm.trans hk7
    have hb7 : w.heap.size ≤ b7 := by omega
    have hne7 : (Value.slice (some ⟨wa.heap.size, 0, none⟩) 0 (n * 6)).ownBlock ≠ some b7 := by simp [Value.ownBlock]; omega
    clear hs1 ho hc7
    go_wp2_with fail
    clear t12
    go_loopw [6, 32] (fun v s32 wr => ∃ d : Nat, d ≤ 6 ∧ s32 = .int .i64 d ∧ OwnH wr w.heap.size v (ringUp n q r (d * n)) ∧ v.ownBlock ≠ some b7 ∧ Hid (wr.cell? ⟨b7, 0, none⟩ = some (.int .i64 (posR n q r (d * n)).1) ∧ wr.cell? ⟨b7, 1, none⟩ = some (.int .i64 (posR n q r (d * n)).2)) ∧ (wr.frozen? ⟨b7, 0, none⟩ = false ∧ wr.frozen? ⟨b7, 1, none⟩ = false) ∧ Hid (∀ j, j < d * n → okH (posR n q r j).1 (posR n q r j).2 = true) ∧ Kp w wr) (fun _ s32 _ => 6 - (intOf s32).toNat)
    case atStart => exact ⟨0, by omega, rfl, by simpa using ho7, hne7, by simpa using p0, hf7, fun j hj => absurd hj (by omega), hw7⟩
    case round =>
      obtain ⟨d, hd, rfl, hoR, hneR, hcR, hfR, hokR, kR⟩ := hrel
      by_cases hlt : d < 6
      · have hi := fun w => ix d hlt w
        have hd6 : decide ((d : Int) < 6) = true := by simp; omega
        have bd := dir_bd d
        have l7 := cell_lt hcR.out.1
        have hb9 := hoR.block wr.heap.size (Nat.le_refl _)
        have n79 : b7 ≠ wr.heap.size := by omega
        go_wp2_with fail
        clear hi
        have hk9 : Kp wr (wr.alloc (.cells #[.int .i64 (dirQ d), .int .i64 (dirR d)] 51)) := (Kp.refl _).alloc _
        have i0o : OwnH (wr.alloc (.cells #[.int .i64 (dirQ d), .int .i64 (dirR d)] 51)) w.heap.size u6 (ringUp n q r (d * n)) := hoR.keep hk9
        have i0c : Hid ((wr.alloc (.cells #[.int .i64 (dirQ d), .int .i64 (dirR d)] 51)).cell? ⟨b7, 0, none⟩ = some (.int .i64 (posR n q r (d * n)).1) ∧ (wr.alloc (.cells #[.int .i64 (dirQ d), .int .i64 (dirR d)] 51)).cell? ⟨b7, 1, none⟩ = some (.int .i64 (posR n q r (d * n)).2)) := Lib.hid (hk9.two hcR.out)
        have i0f : (wr.alloc (.cells #[.int .i64 (dirQ d), .int .i64 (dirR d)] 51)).frozen? ⟨b7, 0, none⟩ = false ∧ (wr.alloc (.cells #[.int .i64 (dirQ d), .int .i64 (dirR d)] 51)).frozen? ⟨b7, 1, none⟩ = false := ⟨(hk9.liv ⟨hcR.out.1, hfR.1⟩).2, (hk9.liv ⟨hcR.out.2, hfR.2⟩).2⟩
        have i0s : (wr.alloc (.cells #[.int .i64 (dirQ d), .int .i64 (dirR d)] 51)).cell? ⟨wr.heap.size, 0, none⟩ = some (.int .i64 (dirQ d)) ∧ (wr.alloc (.cells #[.int .i64 (dirQ d), .int .i64 (dirR d)] 51)).cell? ⟨wr.heap.size, 1, none⟩ = some (.int .i64 (dirR d)) := by simp [go_sem]
        have i0k : Kp w (wr.alloc (.cells #[.int .i64 (dirQ d), .int .i64 (dirR d)] 51)) := kR.trans hk9
        have b9lt : wr.heap.size < (wr.alloc (.cells #[.int .i64 (dirQ d), .int .i64 (dirR d)] 51)).heap.size := by simp
        generalize hwi : wr.alloc (.cells #[.int .i64 (dirQ d), .int .i64 (dirR d)] 51) = wi at *
        generalize wr.heap.size = b9 at *
        clear hk9
        go_loopw [6, 36] (fun v s36 wx => ∃ k : Nat, k ≤ n ∧ s36 = .int .i64 k ∧ OwnH wx w.heap.size v (ringUp n q r (d * n + k)) ∧ v.ownBlock ≠ some b7 ∧ v.ownBlock ≠ some b9 ∧ Hid (wx.cell? ⟨b7, 0, none⟩ = some (.int .i64 (posR n q r (d * n + k)).1) ∧ wx.cell? ⟨b7, 1, none⟩ = some (.int .i64 (posR n q r (d * n + k)).2)) ∧ (wx.frozen? ⟨b7, 0, none⟩ = false ∧ wx.frozen? ⟨b7, 1, none⟩ = false) ∧ Hid (wx.cell? ⟨b9, 0, none⟩ = some (.int .i64 (dirQ d)) ∧ wx.cell? ⟨b9, 1, none⟩ = some (.int .i64 (dirR d))) ∧ Hid (∀ j, j < d * n + k → okH (posR n q r j).1 (posR n q r j).2 = true) ∧ Kp w wx) (fun _ s36 _ => n - (intOf s36).toNat)
        case atStart => exact ⟨0, by omega, rfl, i0o, hneR, hb9, i0c, i0f, Lib.hid i0s, hokR, i0k⟩
        case round =>
          clear i0o i0c i0f i0s i0k hcR hfR hoR hokR kR hwi
          obtain ⟨k, hk, rfl, hoQ, hneQ, hn9Q, hcQ, hfQ, hsQ, hokQ, kQ⟩ := hrel
          by_cases hltk : k < n
          · have hltk' : (k : Int) < n := by omega
            have pb := HBd.out (d * n + k)
            have hdn : d * n + k < 6 * n := by
              have : d * n ≤ 5 * n := Nat.mul_le_mul_right n (by omega)
              omega
            have hst := Lib.hid (posR_step n q r d k hltk)
            have hup := Lib.hid (ringUp_succ n q r (d * n + k))
            have hln := Lib.hid (ringUp_length n q r (d * n + k))
            obtain ⟨px, py, hpx⟩ : ∃ px py, posR n q r (d * n + k) = (px, py) := ⟨_, _, rfl⟩
            have HP := Lib.hid hpx
            rw [hpx] at pb
            simp only at pb
            clear hpx
            have c7 : wr.cell? ⟨b7, 0, none⟩ = some (.int .i64 px) ∧ wr.cell? ⟨b7, 1, none⟩ = some (.int .i64 py) := by have := hcQ.out; rw [HP.out] at this; exact this
            have c9 := hsQ.out
            cases hok : okH px py
            · go_wp2_with fail
              refine (isHex_any _ _ _).mono ?_
              rintro e w1 ⟨rfl, k1⟩
              go_wp2_with fail
              go_ret2
              have e : allOk (ringUp n q r (6 * n)) = false := allOk_false (ringUp_at n q r (6 * n) (d * n + k) hdn) (by rw [HP.out]; exact hok)
              rw [e]
              exact ListPost.no (kQ.trans k1)
            · go_wp2_with fail
              refine (isHex_any _ _ _).mono ?_
              rintro e w1 ⟨rfl, k1⟩
              have c7' := k1.two c7
              have f7a := (k1.liv ⟨c7.1, hfQ.1⟩).2
              have f7b := (k1.liv ⟨c7.2, hfQ.2⟩).2
              have c9' := k1.two c9
              have hoP : w1.ownsRow w.heap.size 25 2 u6 (ringUp n q r (d * n + k)).length (cellsH (ringUp n q r (d * n + k))) := hoQ.keep k1
              have K2 : Kp w w1 := kQ.trans k1
              have zz := K2.size
              have l7' := cell_lt c7'.1
              have l9' := cell_lt c9'.1
              have n7 : b7 ≠ w1.heap.size := by omega
              have n9 : b9 ≠ w1.heap.size := by omega
              have HO := Lib.hid hoP
              have HQ := Lib.hid hneQ
              have H9 := Lib.hid hn9Q
              clear k1 c7 c9 hcQ hsQ hoQ hfQ kQ hoP hneQ hn9Q
              go_wp2_with (first
                | (at_builtin; refine wpList_append_own_at _ rfl (.tmp 41) (.tmp 43) 28 rfl w.heap.size 25 i0 (hx 0 0) 2 16 Tryd.underlying28 hi0 hz0 hs0 hb0 rfl (by decide) u6 (ringUp n q r (d * n + k)).length (cellsH (ringUp n q r (d * n + k))) rfl (HO.out.alloc _) ⟨w1.heap.size, 0, none⟩ 1 1 [.int .i64 px, .int .i64 py] rfl rfl (two_new _ _ _ _) (by simp [Value.oneCell']) (by rw [hln.out]; simp only [maxLen]; omega) (by rw [hln.out]; omega) (by simp; omega) ?_; intro v' w2 hown2 hgrow2 hnil2 hat2; clear hnil2; have kal : Kp w1 (w1.alloc (.cells #[.int .i64 px, .int .i64 py] 25)) := (Kp.refl w1).alloc _; have q0 := hgrow2.cell (kal.cell c7'.1) (fun e => HQ.out e.symm); have q1 := hgrow2.cell (kal.cell c7'.2) (fun e => HQ.out e.symm); have q2 := hgrow2.cell (kal.cell c9'.1) (fun e => H9.out e.symm); have q3 := hgrow2.cell (kal.cell c9'.2) (fun e => H9.out e.symm); have q4 := grown_frozen hgrow2 (kal.cell c7'.1) (fun e => HQ.out e.symm) (kal.liv ⟨c7'.1, f7a⟩).2; have q5 := grown_frozen hgrow2 (kal.cell c7'.2) (fun e => HQ.out e.symm) (kal.liv ⟨c7'.2, f7b⟩).2; have K3 : Kp w w2 := (K2.trans kal).grown hgrow2 (fun k e => (World.ownsRow.lt HO.out k e).1); have N7 := Lib.hid (show v'.ownBlock ≠ some b7 from (by rcases hat2 with e | e <;> rw [e]; exact HQ.out; simp; omega)); have N9 := Lib.hid (show v'.ownBlock ≠ some b9 from (by rcases hat2 with e | e <;> rw [e]; exact H9.out; simp; omega)); have O3 := Lib.hid (OwnH.snoc (x := (px, py)) hown2); clear hown2 hgrow2 hat2 kal c7' c9' f7a f7b)
                | (go_at_call 22; refine (shifted_any _ _ _ _ _ (by omega) (by omega) (by omega) (by omega) (by omega) (by omega) (by omega) (by omega)).mono ?_; rintro e w3 ⟨rfl, k3⟩; have r0 := k3.liv ⟨q0, q4⟩; have r1 := k3.liv ⟨q1, q5⟩; have r2 := k3.two ⟨q2, q3⟩; have n97 : b9 ≠ b7 := (by omega)))
              go_roundw
              case rel =>
                have O4 : OwnH w3 w.heap.size v' (ringUp n q r (d * n + k) ++ [(px, py)]) := O3.out.keep k3
                refine ⟨k + 1, by omega, by go_num, ?_, N7.out, N9.out, ?_, ?_, ?_, ?_, ?_⟩
                · have e : ringUp n q r (d * n + (k + 1)) = ringUp n q r (d * n + k) ++ [(px, py)] := by rw [← Nat.add_assoc, hup.out, HP.out]
                  rw [e]
                  exact (O4.far N7.out _).far N7.out _
                · have e : posR n q r (d * n + (k + 1)) = (px + dirQ d, py + dirR d) := by rw [← Nat.add_assoc, hst.out, HP.out]
                  rw [e]
                  exact Lib.hid ⟨by simp [go_sem, *], by simp [go_sem, *]⟩
                · exact ⟨by simp [go_sem, *], by simp [go_sem, *]⟩
                · exact Lib.hid ⟨far2 r2.1 n97, far2 r2.2 n97⟩
                · refine Lib.hid fun j hj => ?_
                  rcases Nat.lt_or_ge j (d * n + k) with h | h
                  · exact hokQ.out j h
                  · obtain rfl : j = d * n + k := by omega
                    rw [HP.out]
                    exact hok
                · exact ((K3.trans k3).setCell (by simp; omega) _).setCell (by simp; omega) _
              case measure => simp [intOf]; omega
          · obtain rfl : k = n := by omega
            go_wp2_with fail
            go_roundw
            case rel =>
              have e : (d + 1) * k = d * k + k := by rw [Nat.succ_mul]
              exact ⟨d + 1, by omega, by go_num, by rw [e]; exact hoQ, hneQ, by rw [e]; exact hcQ, hfQ, by rw [e]; exact hokQ, kQ⟩
            case measure => simp [intOf]; omega
      · obtain rfl : d = 6 := by omega
        go_wp2_with fail
        go_ret2
        have e : allOk (ringUp n q r (6 * n)) = true := allOk_true fun i x hx => by
          have hi : i < 6 * n := by have := (List.getElem?_eq_some_iff.1 hx).1; rwa [ringUp_length] at this
          rw [ringUp_at _ _ _ _ _ hi] at hx
          obtain rfl := Option.some.inj hx
          exact hokR.out i hi
        rw [e]
        exact ⟨_, rfl, hoR, kR⟩

theorem ringOf_zero (q r : Int) (w : World) (ha : okH q r = true) :
    Calls Tryd.prog 6 #[hx q r, .int .i64 0] w (ListPost true [(q, r)] w) := by
  have HB := Lib.hid (show (decide (0 ≤ (0 : Int)) && decide ((0 : Int) ≤ 6)) = true by decide)
  go_enter Tryd.func6, Tryd.ntmps6
  go_wp2_with fail
  refine (isHex_any _ _ _).mono ?_
  rintro e wa ⟨rfl, ka⟩
  have b0 : wa.cell? ⟨w.heap.size, 0, none⟩ = some (.int .i64 q) := ka.cell (by simp [go_sem])
  have b1 : wa.cell? ⟨w.heap.size, 1, none⟩ = some (.int .i64 r) := ka.cell (by simp [go_sem])
  have K1 : Kp w wa := ((Kp.refl _).alloc _).trans ka
  have z1 := K1.size
  clear ka
  go_wp2_with fail
  refine (isRadius_any _ _).mono ?_
  rintro e w2 ⟨rfl, rfl⟩
  rw [HB.out]
  go_wp2_with fail
  go_ret2
  have h := World.ownsRow_lit (base := w.heap.size) (e := 25) (size := 2) wa #[.int .i64 q, .int .i64 r] 1 (by omega) (by simp [maxLen]) rfl
  exact ⟨.slice (some ⟨wa.heap.size, 0, none⟩) 1 1, rfl, h, K1.alloc _⟩

theorem ringOf_any (q r n : Int) (w : World) (ht : Tab w) :
    Calls Tryd.prog 6 #[hx q r, .int .i64 n] w (ListPost (ringOk q r n) (ringL n.toNat q r) w) := by
  cases ha : okH q r
  · have e : ringOk q r n = false := by simp [ringOk, ha]
    rw [e]
    go_enter Tryd.func6, Tryd.ntmps6
    go_wp2_with fail
    refine (isHex_any _ _ _).mono ?_
    rintro e w1 ⟨rfl, k1⟩
    go_wp2_with fail
    go_ret2
    exact ListPost.no (((Kp.refl _).alloc _).trans k1)
  · cases hb : decide (0 ≤ n) && decide (n ≤ 6)
    · have e : ringOk q r n = false := by simp only [ringOk, hb, Bool.and_false, Bool.false_and]
      rw [e]
      have HB := Lib.hid hb
      clear hb
      go_enter Tryd.func6, Tryd.ntmps6
      go_wp2_with fail
      refine (isHex_any _ _ _).mono ?_
      rintro e w1 ⟨rfl, k1⟩
      go_wp2_with fail
      refine (isRadius_any _ _).mono ?_
      rintro e w2 ⟨rfl, rfl⟩
      rw [HB.out]
      go_wp2_with fail
      go_ret2
      exact ListPost.no (((Kp.refl _).alloc _).trans k1)
    · have e : ringOk q r n = allOk (ringL n.toNat q r) := by simp only [ringOk, ha, hb, Bool.true_and]
      rw [e]
      simp only [Bool.and_eq_true, decide_eq_true_eq] at hb
      obtain ⟨m, rfl⟩ := Int.eq_ofNat_of_zero_le hb.1
      rw [Int.toNat_natCast]
      by_cases h0 : m = 0
      · subst h0
        have e2 : allOk (ringL 0 q r) = true := by simp [ringL, allOk, ha]
        rw [e2]
        exact ringOf_zero q r w ha
      · have e2 : ringL m q r = ringUp m q r (6 * m) := by unfold ringL; rw [if_neg h0]
        rw [e2]
        exact ringOf_pos q r m w ht ha (by omega) (by omega)
end Go.Proofs.YtmodcmkmfedgoaaDoor
