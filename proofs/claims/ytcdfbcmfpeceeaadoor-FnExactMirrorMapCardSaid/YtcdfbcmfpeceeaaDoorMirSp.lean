/-
  The mirrored map of the reference: three lists in memory of their own. Nothing that was there is changed.
-/
import Derived.Test.YtcdfbcmfpeceeaaDoorMirV
namespace Go.Proofs.YtcdfbcmfpeceeaaDoor
open Go.RowKit

set_option maxRecDepth 100000 in
set_option maxHeartbeats 4000000 in
theorem mMirror_any (W H : Int) (t r d : Value) (lt lr ld : List Int) (w : World) (a : 1 ≤ W) (b : W ≤ 10) (c : 1 ≤ H) (e : H ≤ 10) (hL : Lists w t r d lt lr ld) (hn : (lt.length : Int) = W * H) (hr : edgesOk W H lr = true) (hd : edgesOk W H ld = true) :
    Calls Tryd.prog 72 #[mp W H t r d] w (ToMapPost H W (mirT W H lt lt.length lt.length) ((lr.map (mirE W H)).mergeSort fun x y => decide (x ≤ y)) ((ld.map (mirE W H)).mergeSort fun x y => decide (x ≤ y)) w) := by
  have hA := area_bd a b c e
  obtain ⟨At, ct, rfl, hct⟩ := hL.rt
  obtain ⟨Ar, cr, rfl, _⟩ := hL.rr
  obtain ⟨Ad, cd, rfl, _⟩ := hL.rd
  obtain ⟨n, hnt⟩ : ∃ n, lt.length = n := ⟨_, rfl⟩
  obtain ⟨nr, hnr⟩ : ∃ n, lr.length = n := ⟨_, rfl⟩
  obtain ⟨nd, hnd⟩ : ∃ n, ld.length = n := ⟨_, rfl⟩
  rw [hnt, hnr, hnd] at hL
  rw [hnt] at hct
  rw [hnr, hnd]
  have HCT := Lib.hid hct
  have HR := Lib.hid hr
  have HD := Lib.hid hd
  clear hct hnr hnd
  have hn0 : n ≤ 100 := by omega
  have HN : Hid ((n : Int) = W * H) := Lib.hid (by rw [← hn, hnt])
  have HNt := Lib.hid hnt
  rw [hnt]
  have CS : Hid (∀ w, Calls Tryd.prog 107 #[mp W H (.slice At n ct) (.slice Ar nr cr) (.slice Ad nd cd)] w fun e w' => e = .returned (.int .i64 (n : Int)) ∧ Kp w w') := Lib.hid fun w => by
    rw [HN.out]
    exact mSize_any W H _ _ _ w a b c e
  have HL := Lib.hid hL
  have HA := Lib.hid hA
  obtain ⟨x, hx⟩ : ∃ x, x = mirT W H lt n n := ⟨_, rfl⟩
  obtain ⟨y, hy⟩ : ∃ y, y = ((lr.map (mirE W H)).mergeSort fun x y => decide (x ≤ y)) := ⟨_, rfl⟩
  obtain ⟨z, hz⟩ : ∃ z, z = ((ld.map (mirE W H)).mergeSort fun x y => decide (x ≤ y)) := ⟨_, rfl⟩
  rw [← hx, ← hy, ← hz]
  have HX := Lib.hid hx
  have HY := Lib.hid hy
  have HZ := Lib.hid hz
  have hmk := fun w => mkInts n (by omega) w
  clear hL hn hnt hA hx hy hz hr hd
  go_enter Tryd.func72, Tryd.ntmps72
  go_upto_region 1 with fail
  go_cut [3] from 6 to 13 (fun s3 wx => ∃ g tb : Nat, s3 = .pointer (some ⟨g, 0, none⟩) ∧ g ≠ tb ∧ w.heap.size + 2 ≤ g ∧ Live5 wx g (.int .i64 H) (.int .i64 W) (.slice (some ⟨tb, 0, none⟩) n n) (.slice none 0 0) (.slice none 0 0) ∧ OwnI wx (w.heap.size + 2) (.slice (some ⟨tb, 0, none⟩) n n) (List.replicate n 0) ∧ Live5 wx (w.heap.size + 1) (.int .i64 0) (.int .i64 0) (.slice none 0 0) (.slice none 0 0) (.slice none 0 0) ∧ (wx.cell? ⟨w.heap.size, 0, none⟩ = some (.int .i64 W) ∧ wx.cell? ⟨w.heap.size, 1, none⟩ = some (.int .i64 H) ∧ wx.cell? ⟨w.heap.size, 2, none⟩ = some (.slice At n ct) ∧ wx.cell? ⟨w.heap.size, 3, none⟩ = some (.slice Ar nr cr) ∧ wx.cell? ⟨w.heap.size, 4, none⟩ = some (.slice Ad nd cd)) ∧ Kp w wx)
  case first =>
    refine wp_region_held_drew (S := (fun w' => w'.cell? ⟨w.heap.size, 0, none⟩ = some (.int .i64 W) ∧ w'.cell? ⟨w.heap.size, 1, none⟩ = some (.int .i64 H) ∧ w'.cell? ⟨w.heap.size, 2, none⟩ = some (.slice At n ct) ∧ w'.cell? ⟨w.heap.size, 3, none⟩ = some (.slice Ar nr cr) ∧ w'.cell? ⟨w.heap.size, 4, none⟩ = some (.slice Ad nd cd))) (by kernel_rfl) ?_ (fun hHeld => ?_)
    · simp [go_sem]
    refine wpAnyH_take (i := 0) (oi := ⟨some 6, _, _, _, _, _⟩) (v := ?_) rfl (by kernel_rfl) (by kernel_rfl) (by kernel_rfl) (fun _ _ _ h => h) (Or.inl ⟨by rfl, ?_⟩) (by assumption) ?_
    rotate_left
    · intro w hSw; (try dsimp only at hSw); go_simp; (all_goals with_reducible rfl)
    simp only [Act.put, List.setIfInBounds_toArray, List.set_cons_zero, List.set_cons_succ]
    refine wpAnyH_take (i := 1) (oi := ⟨some 7, _, _, _, _, _⟩) (v := ?_) rfl (by kernel_rfl) (by kernel_rfl) (by kernel_rfl) (fun _ _ _ h => h) (Or.inl ⟨by rfl, ?_⟩) (by assumption) ?_
    rotate_left
    · intro w hSw; (try dsimp only at hSw); go_simp; (all_goals with_reducible rfl)
    simp only [Act.put, List.setIfInBounds_toArray, List.set_cons_zero, List.set_cons_succ]
    refine wpAnyH_take (i := 2) (oi := ⟨some 8, _, _, _, _, _⟩) (v := ?_) rfl (by kernel_rfl) (by kernel_rfl) (by kernel_rfl) (fun _ _ _ h => h) (Or.inl ⟨by rfl, ?_⟩) (by assumption) ?_
    rotate_left
    · intro w hSw; (try dsimp only at hSw); go_simp; (all_goals with_reducible rfl)
    simp only [Act.put, List.setIfInBounds_toArray, List.set_cons_zero, List.set_cons_succ]
    refine wpAnyH_take (i := 3) (oi := ⟨some 9, _, _, _, _, _⟩) (v := ?_) rfl (by kernel_rfl) (by kernel_rfl) (by kernel_rfl) (fun _ _ _ h => h) (Or.inl ⟨by rfl, ?_⟩) (by assumption) ?_
    rotate_left
    · intro w hSw; (try dsimp only at hSw); go_simp; (all_goals with_reducible rfl)
    simp only [Act.put, List.setIfInBounds_toArray, List.set_cons_zero, List.set_cons_succ]
    refine wpAnyH_take (i := 4) (oi := ⟨some 10, _, _, _, _, _⟩) (v := ?_) rfl (by kernel_rfl) (by kernel_rfl) (by kernel_rfl) (fun _ _ _ h => h) (Or.inl ⟨by rfl, ?_⟩) (by assumption) ?_
    rotate_left
    · intro w hSw; (try dsimp only at hSw); go_simp; (all_goals with_reducible rfl)
    simp only [Act.put, List.setIfInBounds_toArray, List.set_cons_zero, List.set_cons_succ]
    refine wpAnyH_ready (rs := [5, 8]) (by kernel_rfl) (by simp) ?_
    refine (AllReadyH.cons (o := ⟨some 11, _, _, _, _, _⟩) rfl (fun K hK => ?_) (AllReadyH.cons (o := ⟨some 3, _, _, _, _, _⟩) rfl (fun K hK => ?_) AllReadyH.nil))
    · go_simp
      refine (CS.out _).mono ?_
      rintro e1 w1 ⟨rfl, k1⟩
      have z1 := k1.size
      (try simp at z1)
      have m1 : w1.cell? ⟨w.heap.size, 0, none⟩ = some (.int .i64 W) ∧ w1.cell? ⟨w.heap.size, 1, none⟩ = some (.int .i64 H) ∧ w1.cell? ⟨w.heap.size, 2, none⟩ = some (.slice At n ct) ∧ w1.cell? ⟨w.heap.size, 3, none⟩ = some (.slice Ar nr cr) ∧ w1.cell? ⟨w.heap.size, 4, none⟩ = some (.slice Ad nd cd) := ⟨k1.cell (by simp [go_sem]), k1.cell (by simp [go_sem]), k1.cell (by simp [go_sem]), k1.cell (by simp [go_sem]), k1.cell (by simp [go_sem])⟩
      have Lr : Live5 w1 (w.heap.size + 1) (.int .i64 0) (.int .i64 0) (.slice none 0 0) (.slice none 0 0) (.slice none 0 0) := live5_keep k1 ⟨by simp [go_sem], by simp [go_sem], by simp [go_sem], by simp [go_sem], by simp [go_sem]⟩
      have nb3 : w.heap.size < w1.heap.size := by omega
      have nb4 : w.heap.size + 1 < w1.heap.size := by omega
      go_wp2_with fail
      refine hK.out _ _ (by simp [go_sem, *]) (fun hHeld => ?_)
      clear hK K
      try simp only [Act.put, List.setIfInBounds_toArray, List.set_cons_zero, List.set_cons_succ]
      refine wpAnyH_ready (rs := [6, 8]) (by kernel_rfl) (by simp) ?_
      refine (AllReadyH.cons (o := ⟨some 12, _, _, _, _, _⟩) rfl (fun K hK => ?_) (AllReadyH.cons (o := ⟨some 3, _, _, _, _, _⟩) rfl (fun K hK => ?_) AllReadyH.nil))
      · go_simp
        go_wp2_with fail
        refine hK.out _ _ (by simp [go_sem, *]) (fun hHeld => ?_)
        clear hK K
        try simp only [Act.put, List.setIfInBounds_toArray, List.set_cons_zero, List.set_cons_succ]
        refine wpAnyH_take (i := 7) (oi := ⟨some 13, _, _, _, _, _⟩) (v := ?_) rfl (by kernel_rfl) (by kernel_rfl) (by kernel_rfl) (fun _ _ _ h => h) (Or.inl ⟨by rfl, ?_⟩) (by assumption) ?_
        rotate_left
        · intro w hSw; (try dsimp only at hSw); go_simp; (all_goals with_reducible rfl)
        simp only [Act.put, List.setIfInBounds_toArray, List.set_cons_zero, List.set_cons_succ]
        refine wpAnyH_ready (rs := [8]) (by kernel_rfl) (by simp) ?_
        refine (AllReadyH.cons (o := ⟨some 3, _, _, _, _, _⟩) rfl (fun K hK => ?_) AllReadyH.nil)
        · go_simp
          go_wp2_with fail
          refine hK.out _ _ (by simp [go_sem, *]) (fun hHeld => ?_)
          clear hK K
          try simp only [Act.put, List.setIfInBounds_toArray, List.set_cons_zero, List.set_cons_succ]
          refine wpAnyH_ready (rs := [9]) (by kernel_rfl) (by simp) ?_
          refine AllReadyH.cons (o := ⟨none, _, _, _, _, _⟩) rfl (fun K hK => ?_) AllReadyH.nil
          go_simp
          go_wp2_with fail
          refine hK.out _ _ (by simp [go_sem, *]) (fun hHeld => ?_)
          clear hK K
          try simp only [Act.put, List.setIfInBounds_toArray, List.set_cons_zero, List.set_cons_succ]
          refine wpAnyH_done (by kernel_rfl) ?_ _
          go_wp2_with fail
          go_meet
          have KD : Kp w _ := (((Kp.refl w).alloc _).alloc _).drew.trans k1
          refine ⟨w1.heap.size + 1, w1.heap.size, rfl, by omega, by omega, ⟨by simp [go_sem, *], by simp [go_sem, *], by simp [go_sem, *], by simp [go_sem, *], by simp [go_sem, *]⟩, ?_, ⟨by simp [go_sem, *], by simp [go_sem, *], by simp [go_sem, *], by simp [go_sem, *], by simp [go_sem, *]⟩, ⟨by simp [go_sem, *], by simp [go_sem, *], by simp [go_sem, *], by simp [go_sem, *], by simp [go_sem, *]⟩, ?_⟩
          · exact ((ownI_zero w1 n (by omega)).keep ((Kp.refl _).alloc _)).base (by omega)
          · exact (KD.alloc _).alloc _
      · go_simp
        go_wp2_with fail
        refine hK.out _ _ (by simp [go_sem, *]) (fun hHeld => ?_)
        clear hK K
        try simp only [Act.put, List.setIfInBounds_toArray, List.set_cons_zero, List.set_cons_succ]
        refine wpAnyH_ready (rs := [6]) (by kernel_rfl) (by simp) ?_
        refine (AllReadyH.cons (o := ⟨some 12, _, _, _, _, _⟩) rfl (fun K hK => ?_) AllReadyH.nil)
        · go_simp
          go_wp2_with fail
          refine hK.out _ _ (by simp [go_sem, *]) (fun hHeld => ?_)
          clear hK K
          try simp only [Act.put, List.setIfInBounds_toArray, List.set_cons_zero, List.set_cons_succ]
          refine wpAnyH_take (i := 7) (oi := ⟨some 13, _, _, _, _, _⟩) (v := ?_) rfl (by kernel_rfl) (by kernel_rfl) (by kernel_rfl) (fun _ _ _ h => h) (Or.inl ⟨by rfl, ?_⟩) (by assumption) ?_
          rotate_left
          · intro w hSw; (try dsimp only at hSw); go_simp; (all_goals with_reducible rfl)
          simp only [Act.put, List.setIfInBounds_toArray, List.set_cons_zero, List.set_cons_succ]
          refine wpAnyH_ready (rs := [9]) (by kernel_rfl) (by simp) ?_
          refine AllReadyH.cons (o := ⟨none, _, _, _, _, _⟩) rfl (fun K hK => ?_) AllReadyH.nil
          go_simp
          go_wp2_with fail
          refine hK.out _ _ (by simp [go_sem, *]) (fun hHeld => ?_)
          clear hK K
          try simp only [Act.put, List.setIfInBounds_toArray, List.set_cons_zero, List.set_cons_succ]
          refine wpAnyH_done (by kernel_rfl) ?_ _
          go_wp2_with fail
          go_meet
          have KD : Kp w _ := (((Kp.refl w).alloc _).alloc _).drew.trans k1
          refine ⟨w1.heap.size, w1.heap.size + 1, rfl, by omega, by omega, ⟨by simp [go_sem, *], by simp [go_sem, *], by simp [go_sem, *], by simp [go_sem, *], by simp [go_sem, *]⟩, ?_, ⟨by simp [go_sem, *], by simp [go_sem, *], by simp [go_sem, *], by simp [go_sem, *], by simp [go_sem, *]⟩, ⟨by simp [go_sem, *], by simp [go_sem, *], by simp [go_sem, *], by simp [go_sem, *], by simp [go_sem, *]⟩, ?_⟩
          · have o := ownI_zero (w1.alloc (.cells #[.int .i64 H, .int .i64 W, .slice (some ⟨w1.heap.size + 1, 0, none⟩) n n, .slice none 0 0, .slice none 0 0] 44)) n (by omega); simp only [World.size_alloc] at o; exact o.base (by omega)
          · exact (KD.alloc _).alloc _
    · go_simp
      go_wp2_with fail
      refine hK.out _ _ (by simp [go_sem, *]) (fun hHeld => ?_)
      clear hK K
      try simp only [Act.put, List.setIfInBounds_toArray, List.set_cons_zero, List.set_cons_succ]
      refine wpAnyH_ready (rs := [5]) (by kernel_rfl) (by simp) ?_
      refine (AllReadyH.cons (o := ⟨some 11, _, _, _, _, _⟩) rfl (fun K hK => ?_) AllReadyH.nil)
      · go_simp
        refine (CS.out _).mono ?_
        rintro e1 w1 ⟨rfl, k1⟩
        have z1 := k1.size
        (try simp at z1)
        have m1 : w1.cell? ⟨w.heap.size, 0, none⟩ = some (.int .i64 W) ∧ w1.cell? ⟨w.heap.size, 1, none⟩ = some (.int .i64 H) ∧ w1.cell? ⟨w.heap.size, 2, none⟩ = some (.slice At n ct) ∧ w1.cell? ⟨w.heap.size, 3, none⟩ = some (.slice Ar nr cr) ∧ w1.cell? ⟨w.heap.size, 4, none⟩ = some (.slice Ad nd cd) := ⟨k1.cell (by simp [go_sem]), k1.cell (by simp [go_sem]), k1.cell (by simp [go_sem]), k1.cell (by simp [go_sem]), k1.cell (by simp [go_sem])⟩
        have Lr : Live5 w1 (w.heap.size + 1) (.int .i64 0) (.int .i64 0) (.slice none 0 0) (.slice none 0 0) (.slice none 0 0) := live5_keep k1 ⟨by simp [go_sem], by simp [go_sem], by simp [go_sem], by simp [go_sem], by simp [go_sem]⟩
        have nb3 : w.heap.size < w1.heap.size := by omega
        have nb4 : w.heap.size + 1 < w1.heap.size := by omega
        have L1 : Live5 w1 (w.heap.size + 1 + 1) (.int .i64 0) (.int .i64 0) (.slice none 0 0) (.slice none 0 0) (.slice none 0 0) := live5_keep k1 ⟨by simp [go_sem], by simp [go_sem], by simp [go_sem], by simp [go_sem], by simp [go_sem]⟩
        have nb5 : w.heap.size + 1 + 1 < w1.heap.size := by omega
        go_wp2_with fail
        refine hK.out _ _ (by simp [go_sem, *]) (fun hHeld => ?_)
        clear hK K
        try simp only [Act.put, List.setIfInBounds_toArray, List.set_cons_zero, List.set_cons_succ]
        refine wpAnyH_ready (rs := [6]) (by kernel_rfl) (by simp) ?_
        refine (AllReadyH.cons (o := ⟨some 12, _, _, _, _, _⟩) rfl (fun K hK => ?_) AllReadyH.nil)
        · go_simp
          go_wp2_with fail
          refine hK.out _ _ (by simp [go_sem, *]) (fun hHeld => ?_)
          clear hK K
          try simp only [Act.put, List.setIfInBounds_toArray, List.set_cons_zero, List.set_cons_succ]
          refine wpAnyH_take (i := 7) (oi := ⟨some 13, _, _, _, _, _⟩) (v := ?_) rfl (by kernel_rfl) (by kernel_rfl) (by kernel_rfl) (fun _ _ _ h => h) (Or.inl ⟨by rfl, ?_⟩) (by assumption) ?_
          rotate_left
          · intro w hSw; (try dsimp only at hSw); go_simp; (all_goals with_reducible rfl)
          simp only [Act.put, List.setIfInBounds_toArray, List.set_cons_zero, List.set_cons_succ]
          refine wpAnyH_ready (rs := [9]) (by kernel_rfl) (by simp) ?_
          refine AllReadyH.cons (o := ⟨none, _, _, _, _, _⟩) rfl (fun K hK => ?_) AllReadyH.nil
          go_simp
          go_wp2_with fail
          refine hK.out _ _ (by simp [go_sem, *]) (fun hHeld => ?_)
          clear hK K
          try simp only [Act.put, List.setIfInBounds_toArray, List.set_cons_zero, List.set_cons_succ]
          refine wpAnyH_done (by kernel_rfl) ?_ _
          go_wp2_with fail
          go_meet
          have KD : Kp w _ := ((((Kp.refl w).alloc _).alloc _).alloc _).drew.trans k1
          refine ⟨w.heap.size + 1 + 1, w1.heap.size, rfl, by omega, by omega, ⟨by simp [go_sem, *], by simp [go_sem, *], by simp [go_sem, *], by simp [go_sem, *], by simp [go_sem, *]⟩, ?_, ⟨by simp [go_sem, *], by simp [go_sem, *], by simp [go_sem, *], by simp [go_sem, *], by simp [go_sem, *]⟩, ⟨by simp [go_sem, *], by simp [go_sem, *], by simp [go_sem, *], by simp [go_sem, *], by simp [go_sem, *]⟩, ?_⟩
          · have o := ownI_zero (((((w1.setCell ⟨w.heap.size + 1 + 1, 0, none⟩ (.int .i64 H)).setCell ⟨w.heap.size + 1 + 1, 1, none⟩ (.int .i64 W)).setCell ⟨w.heap.size + 1 + 1, 2, none⟩ (.slice (some ⟨w1.heap.size, 0, none⟩) n n)).setCell ⟨w.heap.size + 1 + 1, 3, none⟩ (.slice none 0 0)).setCell ⟨w.heap.size + 1 + 1, 4, none⟩ (.slice none 0 0)) n (by omega); simp only [World.size_setCell] at o; exact o.base (by omega)
          · exact (((((KD.setCell (show w.heap.size ≤ w.heap.size + 1 + 1 by omega) _).setCell (show w.heap.size ≤ w.heap.size + 1 + 1 by omega) _).setCell (show w.heap.size ≤ w.heap.size + 1 + 1 by omega) _).setCell (show w.heap.size ≤ w.heap.size + 1 + 1 by omega) _).setCell (show w.heap.size ≤ w.heap.size + 1 + 1 by omega) _).alloc _
  case rest =>
    obtain ⟨g, tb, rfl, hne, hg2, LG, OT, LR, sM, KM⟩ := hcut
    go_wp2_with fail
    go_loopw [4, 5, 17] (fun _ _ sq wx => ∃ q : Nat, q ≤ n ∧ sq = .int .i64 q ∧ Live5 wx g (.int .i64 H) (.int .i64 W) (.slice (some ⟨tb, 0, none⟩) n n) (.slice none 0 0) (.slice none 0 0) ∧ OwnI wx (w.heap.size + 2) (.slice (some ⟨tb, 0, none⟩) n n) (mirT W H lt n q) ∧ Live5 wx (w.heap.size + 1) (.int .i64 0) (.int .i64 0) (.slice none 0 0) (.slice none 0 0) (.slice none 0 0) ∧ (wx.cell? ⟨w.heap.size, 0, none⟩ = some (.int .i64 W) ∧ wx.cell? ⟨w.heap.size, 1, none⟩ = some (.int .i64 H) ∧ wx.cell? ⟨w.heap.size, 2, none⟩ = some (.slice At n ct) ∧ wx.cell? ⟨w.heap.size, 3, none⟩ = some (.slice Ar nr cr) ∧ wx.cell? ⟨w.heap.size, 4, none⟩ = some (.slice Ad nd cd)) ∧ Kp w wx) (fun _ _ sq _ => n - (intOf sq).toNat)
    case atStart => exact ⟨0, by omega, rfl, LG, OT, LR, sM, KM⟩
    case round =>
      clear LG OT LR sM KM
      obtain ⟨q, hq, rfl, lg, ot, lv, sm, km⟩ := hrel
      by_cases hlt : q < n
      · have hlt' : (q : Int) < n := by omega
        obtain ⟨b0, off, rfl, hc⟩ := HCT.out (by omega)
        obtain ⟨v, hv⟩ : ∃ v, lt[q]? = some v := ⟨lt[q]'(by have := HNt.out; omega), List.getElem?_eq_getElem _⟩
        have a0 := km.cell (hc q v hv)
        have hi1 : (q : Int) < W * H := by have := HN.out; omega
        have hmb := (mir_bd a b c e (i := (q : Int)) (by omega) hi1).2
        obtain ⟨k, hk⟩ : ∃ k : Nat, (k : Int) = mirI W H q := ⟨(mirI W H q).toNat, by omega⟩
        have hkn : k < n := by have := HN.out; omega
        have hkn' : (k : Int) < n := by omega
        have HS : Hid (mirT W H lt n (q + 1) = (mirT W H lt n q).set k v) := Lib.hid (by rw [mirT, hv, ← hk]; rfl)
        have C1 : Hid (∀ w, Calls Tryd.prog 109 #[mp W H (.slice (some ⟨b0, off, none⟩) n ct) (.slice Ar nr cr) (.slice Ad nd cd), .int .i64 (q : Int)] w fun e w' => e = .returned (.int .i64 (k : Int)) ∧ Kp w w') := Lib.hid fun w => by
          rw [hk]
          exact mMirrorIndex_any W H _ _ _ _ w a b c e (by omega) hi1
        have OTq := Lib.hid ot
        have s1 : (Live5 wr.drew g (.int .i64 H) (.int .i64 W) (.slice (some ⟨tb, 0, none⟩) n n) (.slice none 0 0) (.slice none 0 0)) ∧ wr.drew.cell? ⟨w.heap.size, 0, none⟩ = some (.int .i64 W) ∧ wr.drew.cell? ⟨w.heap.size, 1, none⟩ = some (.int .i64 H) ∧ wr.drew.cell? ⟨w.heap.size, 2, none⟩ = some (.slice (some ⟨b0, off, none⟩) n ct) ∧ wr.drew.cell? ⟨w.heap.size, 3, none⟩ = some (.slice Ar nr cr) ∧ wr.drew.cell? ⟨w.heap.size, 4, none⟩ = some (.slice Ad nd cd) := ⟨lg, sm⟩
        clear hc hv hmb hk ot
        go_wp2_with fail
        refine wp_region_held_drew (S := (fun w' => (Live5 w' g (.int .i64 H) (.int .i64 W) (.slice (some ⟨tb, 0, none⟩) n n) (.slice none 0 0) (.slice none 0 0)) ∧ w'.cell? ⟨w.heap.size, 0, none⟩ = some (.int .i64 W) ∧ w'.cell? ⟨w.heap.size, 1, none⟩ = some (.int .i64 H) ∧ w'.cell? ⟨w.heap.size, 2, none⟩ = some (.slice (some ⟨b0, off, none⟩) n ct) ∧ w'.cell? ⟨w.heap.size, 3, none⟩ = some (.slice Ar nr cr) ∧ w'.cell? ⟨w.heap.size, 4, none⟩ = some (.slice Ad nd cd))) (by kernel_rfl) ?_ (fun hHeld => ?_)
        · exact s1
        refine wpAnyH_take (i := 0) (oi := ⟨some 22, _, _, _, _, _⟩) (v := ?_) rfl (by kernel_rfl) (by kernel_rfl) (by kernel_rfl) (fun _ _ _ h => h) (Or.inl ⟨by rfl, ?_⟩) (by assumption) ?_
        rotate_left
        · intro w hSw; (try dsimp only at hSw); go_simp; (all_goals with_reducible rfl)
        simp only [Act.put, List.setIfInBounds_toArray, List.set_cons_zero, List.set_cons_succ]
        refine wpAnyH_take (i := 1) (oi := ⟨some 23, _, _, _, _, _⟩) (v := ?_) rfl (by kernel_rfl) (by kernel_rfl) (by kernel_rfl) (fun _ _ _ h => h) (Or.inl ⟨by rfl, ?_⟩) (by assumption) ?_
        rotate_left
        · intro w hSw; (try dsimp only at hSw); go_simp; (all_goals with_reducible rfl)
        simp only [Act.put, List.setIfInBounds_toArray, List.set_cons_zero, List.set_cons_succ]
        refine wpAnyH_take (i := 2) (oi := ⟨some 24, _, _, _, _, _⟩) (v := ?_) rfl (by kernel_rfl) (by kernel_rfl) (by kernel_rfl) (fun _ _ _ h => h) (Or.inl ⟨by rfl, ?_⟩) (by assumption) ?_
        rotate_left
        · intro w hSw; (try dsimp only at hSw); go_simp; (all_goals with_reducible rfl)
        simp only [Act.put, List.setIfInBounds_toArray, List.set_cons_zero, List.set_cons_succ]
        refine wpAnyH_take (i := 3) (oi := ⟨some 25, _, _, _, _, _⟩) (v := ?_) rfl (by kernel_rfl) (by kernel_rfl) (by kernel_rfl) (fun _ _ _ h => h) (Or.inl ⟨by rfl, ?_⟩) (by assumption) ?_
        rotate_left
        · intro w hSw; (try dsimp only at hSw); go_simp; (all_goals with_reducible rfl)
        simp only [Act.put, List.setIfInBounds_toArray, List.set_cons_zero, List.set_cons_succ]
        refine wpAnyH_take (i := 5) (oi := ⟨some 27, _, _, _, _, _⟩) (v := ?_) rfl (by kernel_rfl) (by kernel_rfl) (by kernel_rfl) (fun _ _ _ h => h) (Or.inl ⟨by rfl, ?_⟩) (by assumption) ?_
        rotate_left
        · intro w hSw; (try dsimp only at hSw); go_simp; (all_goals with_reducible rfl)
        simp only [Act.put, List.setIfInBounds_toArray, List.set_cons_zero, List.set_cons_succ]
        refine wpAnyH_ready (rs := [4]) (by kernel_rfl) (by simp) ?_
        refine AllReadyH.cons (o := ⟨some 26, _, _, _, _, _⟩) rfl (fun K hK => ?_) AllReadyH.nil
        go_simp
        refine (C1.out _).mono ?_; rintro e1 w1 ⟨rfl, k1⟩; have s2 : (Live5 w1 g (.int .i64 H) (.int .i64 W) (.slice (some ⟨tb, 0, none⟩) n n) (.slice none 0 0) (.slice none 0 0)) ∧ w1.cell? ⟨w.heap.size, 0, none⟩ = some (.int .i64 W) ∧ w1.cell? ⟨w.heap.size, 1, none⟩ = some (.int .i64 H) ∧ w1.cell? ⟨w.heap.size, 2, none⟩ = some (.slice (some ⟨b0, off, none⟩) n ct) ∧ w1.cell? ⟨w.heap.size, 3, none⟩ = some (.slice Ar nr cr) ∧ w1.cell? ⟨w.heap.size, 4, none⟩ = some (.slice Ad nd cd) := ⟨live5_keep k1 s1.1, k1.cell s1.2.1, k1.cell s1.2.2.1, k1.cell s1.2.2.2.1, k1.cell s1.2.2.2.2.1, k1.cell s1.2.2.2.2.2⟩; have k01 := Lib.hid ((Kp.refl wr).drew.trans k1)
        go_wp2_with fail
        refine hK.out _ _ ?_ (fun hHeld => ?_)
        · (try dsimp only); (first | assumption | exact s2 | exact s1)
        clear hK K
        try simp only [Act.put, List.setIfInBounds_toArray, List.set_cons_zero, List.set_cons_succ]
        refine wpAnyH_take (i := 6) (oi := ⟨some 28, _, _, _, _, _⟩) (v := ?_) rfl (by kernel_rfl) (by kernel_rfl) (by kernel_rfl) (fun _ _ _ h => h) (Or.inl ⟨by rfl, ?_⟩) (by assumption) ?_
        rotate_left
        · intro w hSw; (try dsimp only at hSw); go_simp; (all_goals with_reducible rfl)
        simp only [Act.put, List.setIfInBounds_toArray, List.set_cons_zero, List.set_cons_succ]
        have hb2 : w.heap.size + 2 ≤ tb := (World.ownsRow.lt OTq.out tb rfl).1
        obtain ⟨⟨u, hu⟩, hf, hput⟩ := (OTq.out.keep k01.out).put (mirT_length W H lt n q) hkn v
        have e1 : ¬ tb = g := fun x => hne x.symm
        have e2 : ¬ g = tb := hne
        have e3 : ¬ tb = w.heap.size := by omega
        have e4 : ¬ w.heap.size = tb := by omega
        have e5 : ¬ tb = w.heap.size + 1 := by omega
        have e6 : ¬ w.heap.size + 1 = tb := by omega
        have lv1 := live5_keep k01.out lv
        have km1 : Kp w w1 := km.trans k01.out
        obtain ⟨G, hG⟩ : ∃ G, G = (w1.setCell ⟨tb, k, none⟩ (.int .i64 v)) := ⟨_, rfl⟩
        have GL : (Live5 G g (.int .i64 H) (.int .i64 W) (.slice (some ⟨tb, 0, none⟩) n n) (.slice none 0 0) (.slice none 0 0)) ∧ G.cell? ⟨w.heap.size, 0, none⟩ = some (.int .i64 W) ∧ G.cell? ⟨w.heap.size, 1, none⟩ = some (.int .i64 H) ∧ G.cell? ⟨w.heap.size, 2, none⟩ = some (.slice (some ⟨b0, off, none⟩) n ct) ∧ G.cell? ⟨w.heap.size, 3, none⟩ = some (.slice Ar nr cr) ∧ G.cell? ⟨w.heap.size, 4, none⟩ = some (.slice Ad nd cd) := by
          rw [hG]
          exact ⟨⟨by simp [go_sem, *], by simp [go_sem, *], by simp [go_sem, *], by simp [go_sem, *], by simp [go_sem, *]⟩, by simp [go_sem, *], by simp [go_sem, *], by simp [go_sem, *], by simp [go_sem, *], by simp [go_sem, *]⟩
        have GV : Live5 G (w.heap.size + 1) (.int .i64 0) (.int .i64 0) (.slice none 0 0) (.slice none 0 0) (.slice none 0 0) := by
          rw [hG]
          exact ⟨by simp [go_sem, *], by simp [go_sem, *], by simp [go_sem, *], by simp [go_sem, *], by simp [go_sem, *]⟩
        have GK : Kp w G := by
          rw [hG]
          exact km1.setCell (show w.heap.size ≤ tb by omega) _
        rw [← hG] at hput
        refine wpAnyH_ready (rs := [7]) (by kernel_rfl) (by simp) ?_
        refine AllReadyH.cons (o := ⟨none, _, _, _, _, _⟩) rfl (fun K hK => ?_) AllReadyH.nil
        go_simp
        go_wp2_with fail
        rw [← hG]
        refine hK.out _ _ GL (fun hHeld => ?_)
        clear hK K
        try simp only [Act.put, List.setIfInBounds_toArray, List.set_cons_zero, List.set_cons_succ]
        refine wpAnyH_done (by kernel_rfl) ?_ _
        go_wp2_with fail
        go_roundw
        case rel => subst hG; exact ⟨q + 1, by omega, by go_num, GL.1, by rw [HS.out]; exact hput, GV, GL.2, GK⟩
        case measure => simp [intOf]; omega
      · obtain rfl : n = q := by omega
        rw [← HX.out] at ot
        have hb2 : w.heap.size + 2 ≤ tb := (World.ownsRow.lt ot tb rfl).1
        have OT := Lib.hid ot
        clear ot
        go_wp2_with fail
        refine (mMirrorEdges_any W H _ _ _ _ _ _ _ lr _ a b c e (HL.out.keep km).rr HL.out.br HR.out).mono ?_
        rintro e2 w2 ⟨v2, rfl, o2, k2⟩
        rw [← HY.out] at o2
        obtain ⟨A2, c2, rfl⟩ := o2.slice
        obtain ⟨n2, hn2⟩ : ∃ m, y.length = m := ⟨_, rfl⟩
        rw [hn2] at o2 ⊢
        have hgr : g < wr.heap.size := cell_lt lg.1.1
        have htr : tb < wr.heap.size := (World.ownsRow.lt OT.out tb rfl).2
        have LG2 := live5_keep k2 lg
        have LV2 := live5_keep k2 lv
        have SM2 : w2.cell? ⟨w.heap.size, 0, none⟩ = some (.int .i64 W) ∧ w2.cell? ⟨w.heap.size, 1, none⟩ = some (.int .i64 H) ∧ w2.cell? ⟨w.heap.size, 2, none⟩ = some (.slice At n ct) ∧ w2.cell? ⟨w.heap.size, 3, none⟩ = some (.slice Ar nr cr) ∧ w2.cell? ⟨w.heap.size, 4, none⟩ = some (.slice Ad nd cd) := ⟨k2.cell sm.1, k2.cell sm.2.1, k2.cell sm.2.2.1, k2.cell sm.2.2.2.1, k2.cell sm.2.2.2.2⟩
        have KM2 := km.trans k2
        have e2 : ¬ g = w.heap.size := by omega
        have e4 : ¬ w.heap.size = g := by omega
        have e5 : w.heap.size + 1 < wr.heap.size := cell_lt lv.1.1
        have NG2 : (Value.slice A2 n2 c2).ownBlock ≠ some g := o2.not (by omega)
        have NT2 : (Value.slice A2 n2 c2).ownBlock ≠ some tb := o2.not (by omega)
        have B2 : wr.heap.size + 2 ≤ w2.heap.size ∨ True := Or.inr trivial
        have OT2 := Lib.hid (OT.out.keep k2)
        have O2 := Lib.hid o2
        have z2 := k2.size
        clear lg lv sm km k2 o2 B2
        go_wp2_with fail
        have K2' : Kp w (w2.setCell ⟨g, 3, none⟩ (.slice A2 n2 c2)) := KM2.setCell (show w.heap.size ≤ g by omega) _
        refine (mMirrorEdges_any W H _ _ _ _ _ _ _ ld _ a b c e (HL.out.keep K2').rd HL.out.bd HD.out).mono ?_
        rintro e3 w3 ⟨v3, rfl, o3, k3⟩
        rw [← HZ.out] at o3
        obtain ⟨A3, c3, rfl⟩ := o3.slice
        obtain ⟨n3, hn3⟩ : ∃ m, z.length = m := ⟨_, rfl⟩
        rw [hn3] at o3 ⊢
        have z3 := k3.size
        simp only [World.size_setCell] at z3 o3
        have LG3 : Live5 w3 g (.int .i64 H) (.int .i64 W) (.slice (some ⟨tb, 0, none⟩) n n) (.slice A2 n2 c2) (.slice none 0 0) := live5_keep k3 ⟨by simp [go_sem, *], by simp [go_sem, *], by simp [go_sem, *], by simp [go_sem, *], by simp [go_sem, *]⟩
        have e7 : ¬ g = w.heap.size + 1 := fun x => by omega
        have e8 : ¬ w.heap.size + 1 = g := fun x => by omega
        have LV3 : Live5 w3 (w.heap.size + 1) (.int .i64 0) (.int .i64 0) (.slice none 0 0) (.slice none 0 0) (.slice none 0 0) := live5_keep k3 ⟨by simp [go_sem, *], by simp [go_sem, *], by simp [go_sem, *], by simp [go_sem, *], by simp [go_sem, *]⟩
        have K3 : Kp w w3 := K2'.trans k3
        have OT3 := Lib.hid ((OT2.out.far (j := 3) (show (Value.slice (some ⟨tb, 0, none⟩) n n).ownBlock ≠ some g from fun x => hne (Option.some.inj x).symm) (.slice A2 n2 c2)).keep k3)
        have O23 := Lib.hid ((O2.out.far (j := 3) NG2 (.slice A2 n2 c2)).keep k3)
        have NG3 : (Value.slice A3 n3 c3).ownBlock ≠ some g := o3.not (by omega)
        have NT3 : (Value.slice A3 n3 c3).ownBlock ≠ some tb := o3.not (by omega)
        have D23 : Hid (∀ i, (Value.slice A2 n2 c2).ownBlock = some i → (Value.slice A3 n3 c3).ownBlock ≠ some i) := Lib.hid fun i hi hi' => by
          have h1 := (World.ownsRow.lt O2.out i hi).2
          have h2 := (World.ownsRow.lt o3 i hi').1
          omega
        have O3 := Lib.hid o3
        have NV2 : (Value.slice A2 n2 c2).ownBlock ≠ some (w.heap.size + 1) := O2.out.not (by omega)
        have NV3 : (Value.slice A3 n3 c3).ownBlock ≠ some (w.heap.size + 1) := O3.out.not (by omega)
        have NVT : (Value.slice (some ⟨tb, 0, none⟩) n n).ownBlock ≠ some (w.heap.size + 1) := OT.out.not (by omega)
        have NTG : (Value.slice (some ⟨tb, 0, none⟩) n n).ownBlock ≠ some g := fun x => hne (Option.some.inj x).symm
        have DT2 : Hid (∀ i, (Value.slice (some ⟨tb, 0, none⟩) n n).ownBlock = some i → (Value.slice A2 n2 c2).ownBlock ≠ some i) := Lib.hid fun i hi => by
          obtain rfl := Option.some.inj hi
          exact NT2
        have DT3 : Hid (∀ i, (Value.slice (some ⟨tb, 0, none⟩) n n).ownBlock = some i → (Value.slice A3 n3 c3).ownBlock ≠ some i) := Lib.hid fun i hi => by
          obtain rfl := Option.some.inj hi
          exact NT3
        clear K2' k3 o3 LG2 LV2 SM2 KM2 OT2 O2
        go_wp2_with fail
        refine bodyPost_ret (v := mp H W (.slice (some ⟨tb, 0, none⟩) n n) (.slice A2 n2 c2) (.slice A3 n3 c3)) (by simp [results, Tryd.results72, go_sem, *]) rfl ⟨_, _, _, rfl, ⟨?_, ?_, ?_, DT2.out, DT3.out, D23.out⟩, ?_⟩
        · exact ((((((OT3.out.far NTG _).far NVT _).far NVT _).far NVT _).far NVT _).far NVT _).base (by omega)
        · exact ((((((O23.out.far NG2 _).far NV2 _).far NV2 _).far NV2 _).far NV2 _).far NV2 _).base (by omega)
        · exact ((((((O3.out.far NG3 _).far NV3 _).far NV3 _).far NV3 _).far NV3 _).far NV3 _).base (by omega)
        · exact (((((K3.setCell (show w.heap.size ≤ g by omega) _).setCell (show w.heap.size ≤ w.heap.size + 1 by omega) _).setCell (show w.heap.size ≤ w.heap.size + 1 by omega) _).setCell (show w.heap.size ≤ w.heap.size + 1 by omega) _).setCell (show w.heap.size ≤ w.heap.size + 1 by omega) _).setCell (show w.heap.size ≤ w.heap.size + 1 by omega) _

end Go.Proofs.YtcdfbcmfpeceeaaDoor
