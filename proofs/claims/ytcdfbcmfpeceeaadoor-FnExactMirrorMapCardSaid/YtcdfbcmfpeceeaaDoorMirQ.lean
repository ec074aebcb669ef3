/-
  The mirrored map, as the program and as the reference tell: three lists in memory of their own, or none. Nothing that was there is changed.
-/
import Derived.Test.YtcdfbcmfpeceeaaDoorMirSp
import Derived.Test.YtcdfbcmfpeceeaaDoorGood
import Derived.Test.YtcdfbcmfpeceeaaDoorMirE
import Derived.Test.YtcdfbcmfpeceeaaDoorMapW
namespace Go.Proofs.YtcdfbcmfpeceeaaDoor
open Go.RowKit

/-- A new map and true, or none and false. -/
def MapPost (b : Bool) (W H : Int) (lt lr ld : List Int) (w : World) (e : Ending) (w' : World) : Prop := ∃ t r d, e = .returned (.tuple #[mp W H t r d, .bool b]) ∧ Own3 w' w.heap.size t r d lt lr ld ∧ Kp w w'
theorem own3_nil (w : World) (base : Nat) : Own3 w base (.slice none 0 0) (.slice none 0 0) (.slice none 0 0) [] [] [] :=
  ⟨World.ownsRow_nil w base _ 1, World.ownsRow_nil w base _ 1, World.ownsRow_nil w base _ 1, fun g e => (by cases e), fun g e => (by cases e), fun g e => (by cases e)⟩
theorem Own3.base' {w : World} {base b : Nat} {t r d : Value} {lt lr ld : List Int} (h : Own3 w base t r d lt lr ld) (hb : b ≤ base) : Own3 w b t r d lt lr ld :=
  ⟨h.ot.base hb, h.or.base hb, h.od.base hb, h.tr, h.td, h.rd⟩
theorem mapOk_pt {W H : Int} {lt lr ld : List Int} (h : mapOk W H lt lr ld = true) : (1 ≤ W ∧ W ≤ 10 ∧ 1 ≤ H ∧ H ≤ 10) ∧ (lt.length : Int) = W * H ∧ edgesOk W H lr = true ∧ edgesOk W H ld = true := by
  simp only [mapOk, Bool.and_eq_true, decide_eq_true_iff] at h
  exact ⟨⟨(sideB_true h.1).1, (sideB_true h.1).2, (sideB_true h.2.1).1, (sideB_true h.2.1).2⟩, h.2.2.1, h.2.2.2.2.1, h.2.2.2.2.2⟩

set_option maxRecDepth 100000 in
set_option maxHeartbeats 4000000 in
theorem mirrorMap_no (W H : Int) (t r d : Value) (lt lr ld : List Int) (w : World) (ht : Tab w) (hL : Lists w t r d lt lr ld) (hok : mapOk W H lt lr ld = false) :
    Calls Tryd.prog 31 #[mp W H t r d] w (MapPost false 0 0 [] [] [] w) := by
  have KA : Kp w ((w.alloc (.cells #[.int .i64 W, .int .i64 H, t, r, d] 44)).alloc (.cells #[.int .i64 0, .int .i64 0, .slice none 0 0, .slice none 0 0, .slice none 0 0] 44)) := ((Kp.refl w).alloc _).alloc _
  have CI := Lib.hid (isMap_any W H t r d lt lr ld _ (ht.keep KA) (hL.keep KA))
  rw [hok] at CI
  clear ht hL hok
  go_enter Tryd.func31, Tryd.ntmps31
  go_wp2_with fail
  refine CI.out.mono ?_
  rintro e0 wa ⟨rfl, ka⟩
  have L0 : Live5 wa (w.heap.size + 1) (.int .i64 0) (.int .i64 0) (.slice none 0 0) (.slice none 0 0) (.slice none 0 0) := live5_keep ka ⟨by simp [go_sem], by simp [go_sem], by simp [go_sem], by simp [go_sem], by simp [go_sem]⟩
  have K0 : Kp w wa := KA.trans ka
  clear ka CI KA
  go_wp2_with fail
  refine bodyPost_ret (v := .tuple #[mp 0 0 (.slice none 0 0) (.slice none 0 0) (.slice none 0 0), .bool false]) (by simp [results, Tryd.results31, go_sem, *]) rfl ⟨_, _, _, rfl, own3_nil _ _, ?_⟩
  exact ((((K0.setCell (show w.heap.size ≤ w.heap.size + 1 by omega) _).setCell (show w.heap.size ≤ w.heap.size + 1 by omega) _).setCell (show w.heap.size ≤ w.heap.size + 1 by omega) _).setCell (show w.heap.size ≤ w.heap.size + 1 by omega) _).setCell (show w.heap.size ≤ w.heap.size + 1 by omega) _

set_option maxRecDepth 100000 in
set_option maxHeartbeats 4000000 in
theorem mirrorMap_yes (W H : Int) (t r d : Value) (lt lr ld : List Int) (w : World) (ht : Tab w) (hL : Lists w t r d lt lr ld) (hok : mapOk W H lt lr ld = true) :
    Calls Tryd.prog 31 #[mp W H t r d] w (MapPost true H W (mirT W H lt lt.length lt.length) ((lr.map (mirE W H)).mergeSort fun x y => decide (x ≤ y)) ((ld.map (mirE W H)).mergeSort fun x y => decide (x ≤ y)) w) := by
  obtain ⟨⟨a, b, c, e⟩, hn, hr, hd⟩ := mapOk_pt hok
  have hA := area_bd a b c e
  have HT := Lib.hid ht
  obtain ⟨At, ct, rfl, hct⟩ := hL.rt
  obtain ⟨Ar, cr, rfl, _⟩ := hL.rr
  obtain ⟨Ad, cd, rfl, _⟩ := hL.rd
  obtain ⟨n, hnt⟩ : ∃ n, lt.length = n := ⟨_, rfl⟩
  obtain ⟨nr, hnr⟩ : ∃ n, lr.length = n := ⟨_, rfl⟩
  obtain ⟨nd, hnd⟩ : ∃ n, ld.length = n := ⟨_, rfl⟩
  rw [hnt, hnr, hnd] at hL
  rw [hnt] at hct
  rw [hnr, hnd]
  have HCT := Lib.hid hct
  have HR := Lib.hid hr
  have HD := Lib.hid hd
  have KA : Kp w ((w.alloc (.cells #[.int .i64 W, .int .i64 H, .slice At n ct, .slice Ar nr cr, .slice Ad nd cd] 44)).alloc (.cells #[.int .i64 0, .int .i64 0, .slice none 0 0, .slice none 0 0, .slice none 0 0] 44)) := ((Kp.refl w).alloc _).alloc _
  have CI := Lib.hid (isMap_any W H _ _ _ lt lr ld _ (ht.keep KA) (hL.keep KA))
  rw [hok] at CI
  clear hct hnr hnd hok ht
  have hn0 : n ≤ 100 := by omega
  have HN : Hid ((n : Int) = W * H) := Lib.hid (by rw [← hn, hnt])
  have HNt := Lib.hid hnt
  rw [hnt]
  have CS : Hid (∀ w, Calls Tryd.prog 75 #[mp W H (.slice At n ct) (.slice Ar nr cr) (.slice Ad nd cd)] w fun e w' => e = .returned (.int .i64 (n : Int)) ∧ Kp w w') := Lib.hid fun w => by
    rw [HN.out]
    exact countHexes_any W H _ _ _ w a b c e
  have HL := Lib.hid hL
  have HA := Lib.hid hA
  obtain ⟨x, hx⟩ : ∃ x, x = mirT W H lt n n := ⟨_, rfl⟩
  obtain ⟨y, hy⟩ : ∃ y, y = ((lr.map (mirE W H)).mergeSort fun x y => decide (x ≤ y)) := ⟨_, rfl⟩
  obtain ⟨z, hz⟩ : ∃ z, z = ((ld.map (mirE W H)).mergeSort fun x y => decide (x ≤ y)) := ⟨_, rfl⟩
  rw [← hx, ← hy, ← hz]
  have HX := Lib.hid hx
  have HY := Lib.hid hy
  have HZ := Lib.hid hz
  have hmk := fun w => mkInts n (by omega) w
  clear hL hn hnt hA hx hy hz hr hd
  go_enter Tryd.func31, Tryd.ntmps31
  go_wp2_with fail
  refine CI.out.mono ?_
  rintro e0 wa ⟨rfl, ka⟩
  have z0 : w.heap.size + 2 ≤ wa.heap.size := by have := ka.size; simp at this; omega
  have m0 : wa.cell? ⟨w.heap.size, 0, none⟩ = some (.int .i64 W) ∧ wa.cell? ⟨w.heap.size, 1, none⟩ = some (.int .i64 H) ∧ wa.cell? ⟨w.heap.size, 2, none⟩ = some (.slice At n ct) ∧ wa.cell? ⟨w.heap.size, 3, none⟩ = some (.slice Ar nr cr) ∧ wa.cell? ⟨w.heap.size, 4, none⟩ = some (.slice Ad nd cd) := ⟨ka.cell (by simp [go_sem]), ka.cell (by simp [go_sem]), ka.cell (by simp [go_sem]), ka.cell (by simp [go_sem]), ka.cell (by simp [go_sem])⟩
  have L0 : Live5 wa (w.heap.size + 1) (.int .i64 0) (.int .i64 0) (.slice none 0 0) (.slice none 0 0) (.slice none 0 0) := live5_keep ka ⟨by simp [go_sem], by simp [go_sem], by simp [go_sem], by simp [go_sem], by simp [go_sem]⟩
  have K0 : Kp w wa := KA.trans ka
  have nb1 : w.heap.size < wa.heap.size := by omega
  have nb2 : w.heap.size + 1 < wa.heap.size := by omega
  have n1 : ¬ wa.heap.size = w.heap.size := by omega
  have n2 : ¬ w.heap.size = wa.heap.size := by omega
  have n3 : ¬ wa.heap.size = w.heap.size + 1 := by omega
  have n4 : ¬ w.heap.size + 1 = wa.heap.size := by omega
  clear ka CI KA
  go_upto_region 3 with fail
  go_cut [4] from 10 to 17 (fun s4 wx => ∃ g tb : Nat, s4 = .pointer (some ⟨g, 0, none⟩) ∧ g ≠ tb ∧ w.heap.size + 2 ≤ g ∧ Live5 wx g (.int .i64 H) (.int .i64 W) (.slice (some ⟨tb, 0, none⟩) n n) (.slice none 0 0) (.slice none 0 0) ∧ OwnI wx (w.heap.size + 2) (.slice (some ⟨tb, 0, none⟩) n n) (List.replicate n 0) ∧ Live5 wx (w.heap.size + 1) (.int .i64 0) (.int .i64 0) (.slice none 0 0) (.slice none 0 0) (.slice none 0 0) ∧ (wx.cell? ⟨w.heap.size, 0, none⟩ = some (.int .i64 W) ∧ wx.cell? ⟨w.heap.size, 1, none⟩ = some (.int .i64 H) ∧ wx.cell? ⟨w.heap.size, 2, none⟩ = some (.slice At n ct) ∧ wx.cell? ⟨w.heap.size, 3, none⟩ = some (.slice Ar nr cr) ∧ wx.cell? ⟨w.heap.size, 4, none⟩ = some (.slice Ad nd cd)) ∧ Kp w wx)
  case first =>
    refine wp_region_held_drew (S := (fun w' => w'.cell? ⟨w.heap.size, 0, none⟩ = some (.int .i64 W) ∧ w'.cell? ⟨w.heap.size, 1, none⟩ = some (.int .i64 H) ∧ w'.cell? ⟨w.heap.size, 2, none⟩ = some (.slice At n ct) ∧ w'.cell? ⟨w.heap.size, 3, none⟩ = some (.slice Ar nr cr) ∧ w'.cell? ⟨w.heap.size, 4, none⟩ = some (.slice Ad nd cd))) (by kernel_rfl) ?_ (fun hHeld => ?_)
    · simp [go_sem, *]
    refine wpAnyH_take (i := 0) (oi := ⟨some 10, _, _, _, _, _⟩) (v := ?_) rfl (by kernel_rfl) (by kernel_rfl) (by kernel_rfl) (fun _ _ _ h => h) (Or.inl ⟨by rfl, ?_⟩) (by assumption) ?_
    rotate_left
    · intro w hSw; (try dsimp only at hSw); go_simp; (all_goals with_reducible rfl)
    simp only [Act.put, List.setIfInBounds_toArray, List.set_cons_zero, List.set_cons_succ]
    refine wpAnyH_take (i := 1) (oi := ⟨some 11, _, _, _, _, _⟩) (v := ?_) rfl (by kernel_rfl) (by kernel_rfl) (by kernel_rfl) (fun _ _ _ h => h) (Or.inl ⟨by rfl, ?_⟩) (by assumption) ?_
    rotate_left
    · intro w hSw; (try dsimp only at hSw); go_simp; (all_goals with_reducible rfl)
    simp only [Act.put, List.setIfInBounds_toArray, List.set_cons_zero, List.set_cons_succ]
    refine wpAnyH_take (i := 2) (oi := ⟨some 12, _, _, _, _, _⟩) (v := ?_) rfl (by kernel_rfl) (by kernel_rfl) (by kernel_rfl) (fun _ _ _ h => h) (Or.inl ⟨by rfl, ?_⟩) (by assumption) ?_
    rotate_left
    · intro w hSw; (try dsimp only at hSw); go_simp; (all_goals with_reducible rfl)
    simp only [Act.put, List.setIfInBounds_toArray, List.set_cons_zero, List.set_cons_succ]
    refine wpAnyH_take (i := 3) (oi := ⟨some 13, _, _, _, _, _⟩) (v := ?_) rfl (by kernel_rfl) (by kernel_rfl) (by kernel_rfl) (fun _ _ _ h => h) (Or.inl ⟨by rfl, ?_⟩) (by assumption) ?_
    rotate_left
    · intro w hSw; (try dsimp only at hSw); go_simp; (all_goals with_reducible rfl)
    simp only [Act.put, List.setIfInBounds_toArray, List.set_cons_zero, List.set_cons_succ]
    refine wpAnyH_take (i := 4) (oi := ⟨some 14, _, _, _, _, _⟩) (v := ?_) rfl (by kernel_rfl) (by kernel_rfl) (by kernel_rfl) (fun _ _ _ h => h) (Or.inl ⟨by rfl, ?_⟩) (by assumption) ?_
    rotate_left
    · intro w hSw; (try dsimp only at hSw); go_simp; (all_goals with_reducible rfl)
    simp only [Act.put, List.setIfInBounds_toArray, List.set_cons_zero, List.set_cons_succ]
    refine wpAnyH_ready (rs := [5, 8]) (by kernel_rfl) (by simp) ?_
    refine (AllReadyH.cons (o := ⟨some 15, _, _, _, _, _⟩) rfl (fun K hK => ?_) (AllReadyH.cons (o := ⟨some 4, _, _, _, _, _⟩) rfl (fun K hK => ?_) AllReadyH.nil))
    · go_simp
      refine (CS.out _).mono ?_
      rintro e1 w1 ⟨rfl, k1⟩
      have z1 := k1.size
      (try simp at z1)
      have m1 : w1.cell? ⟨w.heap.size, 0, none⟩ = some (.int .i64 W) ∧ w1.cell? ⟨w.heap.size, 1, none⟩ = some (.int .i64 H) ∧ w1.cell? ⟨w.heap.size, 2, none⟩ = some (.slice At n ct) ∧ w1.cell? ⟨w.heap.size, 3, none⟩ = some (.slice Ar nr cr) ∧ w1.cell? ⟨w.heap.size, 4, none⟩ = some (.slice Ad nd cd) := ⟨k1.cell (by simp [go_sem, *]), k1.cell (by simp [go_sem, *]), k1.cell (by simp [go_sem, *]), k1.cell (by simp [go_sem, *]), k1.cell (by simp [go_sem, *])⟩
      have Lr : Live5 w1 (w.heap.size + 1) (.int .i64 0) (.int .i64 0) (.slice none 0 0) (.slice none 0 0) (.slice none 0 0) := live5_keep k1 ⟨by simp [go_sem, *], by simp [go_sem, *], by simp [go_sem, *], by simp [go_sem, *], by simp [go_sem, *]⟩
      have nb3 : w.heap.size < w1.heap.size := by omega
      have nb4 : w.heap.size + 1 < w1.heap.size := by omega
      go_wp2_with fail
      refine hK.out _ _ (by simp [go_sem, *]) (fun hHeld => ?_)
      clear hK K
      try simp only [Act.put, List.setIfInBounds_toArray, List.set_cons_zero, List.set_cons_succ]
      refine wpAnyH_ready (rs := [6, 8]) (by kernel_rfl) (by simp) ?_
      refine (AllReadyH.cons (o := ⟨some 16, _, _, _, _, _⟩) rfl (fun K hK => ?_) (AllReadyH.cons (o := ⟨some 4, _, _, _, _, _⟩) rfl (fun K hK => ?_) AllReadyH.nil))
      · go_simp
        go_wp2_with fail
        refine hK.out _ _ (by simp [go_sem, *]) (fun hHeld => ?_)
        clear hK K
        try simp only [Act.put, List.setIfInBounds_toArray, List.set_cons_zero, List.set_cons_succ]
        refine wpAnyH_take (i := 7) (oi := ⟨some 17, _, _, _, _, _⟩) (v := ?_) rfl (by kernel_rfl) (by kernel_rfl) (by kernel_rfl) (fun _ _ _ h => h) (Or.inl ⟨by rfl, ?_⟩) (by assumption) ?_
        rotate_left
        · intro w hSw; (try dsimp only at hSw); go_simp; (all_goals with_reducible rfl)
        simp only [Act.put, List.setIfInBounds_toArray, List.set_cons_zero, List.set_cons_succ]
        refine wpAnyH_ready (rs := [8]) (by kernel_rfl) (by simp) ?_
        refine (AllReadyH.cons (o := ⟨some 4, _, _, _, _, _⟩) rfl (fun K hK => ?_) AllReadyH.nil)
        · go_simp
          go_wp2_with fail
          refine hK.out _ _ (by simp [go_sem, *]) (fun hHeld => ?_)
          clear hK K
          try simp only [Act.put, List.setIfInBounds_toArray, List.set_cons_zero, List.set_cons_succ]
          refine wpAnyH_ready (rs := [9]) (by kernel_rfl) (by simp) ?_
          refine AllReadyH.cons (o := ⟨none, _, _, _, _, _⟩) rfl (fun K hK => ?_) AllReadyH.nil
          go_simp
          go_wp2_with fail
          refine hK.out _ _ (by simp [go_sem, *]) (fun hHeld => ?_)
          clear hK K
          try simp only [Act.put, List.setIfInBounds_toArray, List.set_cons_zero, List.set_cons_succ]
          refine wpAnyH_done (by kernel_rfl) ?_ _
          go_wp2_with fail
          go_meet
          have KD : Kp w _ := K0.drew.trans k1
          refine ⟨w1.heap.size + 1, w1.heap.size, rfl, by omega, by omega, ⟨by simp [go_sem, *], by simp [go_sem, *], by simp [go_sem, *], by simp [go_sem, *], by simp [go_sem, *]⟩, ?_, ⟨by simp [go_sem, *], by simp [go_sem, *], by simp [go_sem, *], by simp [go_sem, *], by simp [go_sem, *]⟩, ⟨by simp [go_sem, *], by simp [go_sem, *], by simp [go_sem, *], by simp [go_sem, *], by simp [go_sem, *]⟩, ?_⟩
          · exact ((ownI_zero w1 n (by omega)).keep ((Kp.refl _).alloc _)).base (by omega)
          · exact (KD.alloc _).alloc _
      · go_simp
        go_wp2_with fail
        refine hK.out _ _ (by simp [go_sem, *]) (fun hHeld => ?_)
        clear hK K
        try simp only [Act.put, List.setIfInBounds_toArray, List.set_cons_zero, List.set_cons_succ]
        refine wpAnyH_ready (rs := [6]) (by kernel_rfl) (by simp) ?_
        refine (AllReadyH.cons (o := ⟨some 16, _, _, _, _, _⟩) rfl (fun K hK => ?_) AllReadyH.nil)
        · go_simp
          go_wp2_with fail
          refine hK.out _ _ (by simp [go_sem, *]) (fun hHeld => ?_)
          clear hK K
          try simp only [Act.put, List.setIfInBounds_toArray, List.set_cons_zero, List.set_cons_succ]
          refine wpAnyH_take (i := 7) (oi := ⟨some 17, _, _, _, _, _⟩) (v := ?_) rfl (by kernel_rfl) (by kernel_rfl) (by kernel_rfl) (fun _ _ _ h => h) (Or.inl ⟨by rfl, ?_⟩) (by assumption) ?_
          rotate_left
          · intro w hSw; (try dsimp only at hSw); go_simp; (all_goals with_reducible rfl)
          simp only [Act.put, List.setIfInBounds_toArray, List.set_cons_zero, List.set_cons_succ]
          refine wpAnyH_ready (rs := [9]) (by kernel_rfl) (by simp) ?_
          refine AllReadyH.cons (o := ⟨none, _, _, _, _, _⟩) rfl (fun K hK => ?_) AllReadyH.nil
          go_simp
          go_wp2_with fail
          refine hK.out _ _ (by simp [go_sem, *]) (fun hHeld => ?_)
          clear hK K
          try simp only [Act.put, List.setIfInBounds_toArray, List.set_cons_zero, List.set_cons_succ]
          refine wpAnyH_done (by kernel_rfl) ?_ _
          go_wp2_with fail
          go_meet
          have KD : Kp w _ := K0.drew.trans k1
          refine ⟨w1.heap.size, w1.heap.size + 1, rfl, by omega, by omega, ⟨by simp [go_sem, *], by simp [go_sem, *], by simp [go_sem, *], by simp [go_sem, *], by simp [go_sem, *]⟩, ?_, ⟨by simp [go_sem, *], by simp [go_sem, *], by simp [go_sem, *], by simp [go_sem, *], by simp [go_sem, *]⟩, ⟨by simp [go_sem, *], by simp [go_sem, *], by simp [go_sem, *], by simp [go_sem, *], by simp [go_sem, *]⟩, ?_⟩
          · have o := ownI_zero (w1.alloc (.cells #[.int .i64 H, .int .i64 W, .slice (some ⟨w1.heap.size + 1, 0, none⟩) n n, .slice none 0 0, .slice none 0 0] 44)) n (by omega); simp only [World.size_alloc] at o; exact o.base (by omega)
          · exact (KD.alloc _).alloc _
    · go_simp
      go_wp2_with fail
      refine hK.out _ _ (by simp [go_sem, *]) (fun hHeld => ?_)
      clear hK K
      try simp only [Act.put, List.setIfInBounds_toArray, List.set_cons_zero, List.set_cons_succ]
      refine wpAnyH_ready (rs := [5]) (by kernel_rfl) (by simp) ?_
      refine (AllReadyH.cons (o := ⟨some 15, _, _, _, _, _⟩) rfl (fun K hK => ?_) AllReadyH.nil)
      · go_simp
        refine (CS.out _).mono ?_
        rintro e1 w1 ⟨rfl, k1⟩
        have z1 := k1.size
        (try simp at z1)
        have m1 : w1.cell? ⟨w.heap.size, 0, none⟩ = some (.int .i64 W) ∧ w1.cell? ⟨w.heap.size, 1, none⟩ = some (.int .i64 H) ∧ w1.cell? ⟨w.heap.size, 2, none⟩ = some (.slice At n ct) ∧ w1.cell? ⟨w.heap.size, 3, none⟩ = some (.slice Ar nr cr) ∧ w1.cell? ⟨w.heap.size, 4, none⟩ = some (.slice Ad nd cd) := ⟨k1.cell (by simp [go_sem, *]), k1.cell (by simp [go_sem, *]), k1.cell (by simp [go_sem, *]), k1.cell (by simp [go_sem, *]), k1.cell (by simp [go_sem, *])⟩
        have Lr : Live5 w1 (w.heap.size + 1) (.int .i64 0) (.int .i64 0) (.slice none 0 0) (.slice none 0 0) (.slice none 0 0) := live5_keep k1 ⟨by simp [go_sem, *], by simp [go_sem, *], by simp [go_sem, *], by simp [go_sem, *], by simp [go_sem, *]⟩
        have nb3 : w.heap.size < w1.heap.size := by omega
        have nb4 : w.heap.size + 1 < w1.heap.size := by omega
        have L1 : Live5 w1 wa.heap.size (.int .i64 0) (.int .i64 0) (.slice none 0 0) (.slice none 0 0) (.slice none 0 0) := live5_keep k1 ⟨by simp [go_sem, *], by simp [go_sem, *], by simp [go_sem, *], by simp [go_sem, *], by simp [go_sem, *]⟩
        have nb5 : wa.heap.size < w1.heap.size := by omega
        go_wp2_with fail
        refine hK.out _ _ (by simp [go_sem, *]) (fun hHeld => ?_)
        clear hK K
        try simp only [Act.put, List.setIfInBounds_toArray, List.set_cons_zero, List.set_cons_succ]
        refine wpAnyH_ready (rs := [6]) (by kernel_rfl) (by simp) ?_
        refine (AllReadyH.cons (o := ⟨some 16, _, _, _, _, _⟩) rfl (fun K hK => ?_) AllReadyH.nil)
        · go_simp
          go_wp2_with fail
          refine hK.out _ _ (by simp [go_sem, *]) (fun hHeld => ?_)
          clear hK K
          try simp only [Act.put, List.setIfInBounds_toArray, List.set_cons_zero, List.set_cons_succ]
          refine wpAnyH_take (i := 7) (oi := ⟨some 17, _, _, _, _, _⟩) (v := ?_) rfl (by kernel_rfl) (by kernel_rfl) (by kernel_rfl) (fun _ _ _ h => h) (Or.inl ⟨by rfl, ?_⟩) (by assumption) ?_
          rotate_left
          · intro w hSw; (try dsimp only at hSw); go_simp; (all_goals with_reducible rfl)
          simp only [Act.put, List.setIfInBounds_toArray, List.set_cons_zero, List.set_cons_succ]
          refine wpAnyH_ready (rs := [9]) (by kernel_rfl) (by simp) ?_
          refine AllReadyH.cons (o := ⟨none, _, _, _, _, _⟩) rfl (fun K hK => ?_) AllReadyH.nil
          go_simp
          go_wp2_with fail
          refine hK.out _ _ (by simp [go_sem, *]) (fun hHeld => ?_)
          clear hK K
          try simp only [Act.put, List.setIfInBounds_toArray, List.set_cons_zero, List.set_cons_succ]
          refine wpAnyH_done (by kernel_rfl) ?_ _
          go_wp2_with fail
          go_meet
          have KD : Kp w _ := (K0.drew.alloc _).trans k1
          refine ⟨wa.heap.size, w1.heap.size, rfl, by omega, by omega, ⟨by simp [go_sem, *], by simp [go_sem, *], by simp [go_sem, *], by simp [go_sem, *], by simp [go_sem, *]⟩, ?_, ⟨by simp [go_sem, *], by simp [go_sem, *], by simp [go_sem, *], by simp [go_sem, *], by simp [go_sem, *]⟩, ⟨by simp [go_sem, *], by simp [go_sem, *], by simp [go_sem, *], by simp [go_sem, *], by simp [go_sem, *]⟩, ?_⟩
          · have o := ownI_zero (((((w1.setCell ⟨wa.heap.size, 0, none⟩ (.int .i64 H)).setCell ⟨wa.heap.size, 1, none⟩ (.int .i64 W)).setCell ⟨wa.heap.size, 2, none⟩ (.slice (some ⟨w1.heap.size, 0, none⟩) n n)).setCell ⟨wa.heap.size, 3, none⟩ (.slice none 0 0)).setCell ⟨wa.heap.size, 4, none⟩ (.slice none 0 0)) n (by omega); simp only [World.size_setCell] at o; exact o.base (by omega)
          · exact (((((KD.setCell (show w.heap.size ≤ wa.heap.size by omega) _).setCell (show w.heap.size ≤ wa.heap.size by omega) _).setCell (show w.heap.size ≤ wa.heap.size by omega) _).setCell (show w.heap.size ≤ wa.heap.size by omega) _).setCell (show w.heap.size ≤ wa.heap.size by omega) _).alloc _
  case rest =>
    obtain ⟨g, tb, rfl, hne, hg2, LG, OT, LR, sM, KM⟩ := hcut
    go_wp2_with fail
    refine (CS.out _).mono ?_
    rintro e1 wb ⟨rfl, kb⟩
    replace LG := live5_keep kb LG
    replace OT := OT.keep kb
    replace LR := live5_keep kb LR
    replace sM : wb.cell? ⟨w.heap.size, 0, none⟩ = some (.int .i64 W) ∧ wb.cell? ⟨w.heap.size, 1, none⟩ = some (.int .i64 H) ∧ wb.cell? ⟨w.heap.size, 2, none⟩ = some (.slice At n ct) ∧ wb.cell? ⟨w.heap.size, 3, none⟩ = some (.slice Ar nr cr) ∧ wb.cell? ⟨w.heap.size, 4, none⟩ = some (.slice Ad nd cd) := ⟨kb.cell sM.1, kb.cell sM.2.1, kb.cell sM.2.2.1, kb.cell sM.2.2.2.1, kb.cell sM.2.2.2.2⟩
    replace KM := KM.trans kb
    clear kb
    go_wp2_with fail
    go_loopw [5, 20] (fun _ sq wx => ∃ q : Nat, q ≤ n ∧ sq = .int .i64 q ∧ Live5 wx g (.int .i64 H) (.int .i64 W) (.slice (some ⟨tb, 0, none⟩) n n) (.slice none 0 0) (.slice none 0 0) ∧ OwnI wx (w.heap.size + 2) (.slice (some ⟨tb, 0, none⟩) n n) (mirT W H lt n q) ∧ Live5 wx (w.heap.size + 1) (.int .i64 0) (.int .i64 0) (.slice none 0 0) (.slice none 0 0) (.slice none 0 0) ∧ (wx.cell? ⟨w.heap.size, 0, none⟩ = some (.int .i64 W) ∧ wx.cell? ⟨w.heap.size, 1, none⟩ = some (.int .i64 H) ∧ wx.cell? ⟨w.heap.size, 2, none⟩ = some (.slice At n ct) ∧ wx.cell? ⟨w.heap.size, 3, none⟩ = some (.slice Ar nr cr) ∧ wx.cell? ⟨w.heap.size, 4, none⟩ = some (.slice Ad nd cd)) ∧ Kp w wx) (fun _ sq _ => n - (intOf sq).toNat)
    case atStart => exact ⟨0, by omega, rfl, LG, OT, LR, sM, KM⟩
    case round =>
      clear LG OT LR sM KM
      obtain ⟨q, hq, rfl, lg, ot, lv, sm, km⟩ := hrel
      by_cases hlt : q < n
      · have hlt' : (q : Int) < n := by omega
        obtain ⟨b0, off, rfl, hc⟩ := HCT.out (by omega)
        obtain ⟨v, hv⟩ : ∃ v, lt[q]? = some v := ⟨lt[q]'(by have := HNt.out; omega), List.getElem?_eq_getElem _⟩
        have a0 := km.cell (hc q v hv)
        have hi1 : (q : Int) < W * H := by have := HN.out; omega
        have hmb := (mir_bd a b c e (i := (q : Int)) (by omega) hi1).2
        obtain ⟨k, hk⟩ : ∃ k : Nat, (k : Int) = mirI W H q := ⟨(mirI W H q).toNat, by omega⟩
        have hkn : k < n := by have := HN.out; omega
        have hkn' : (k : Int) < n := by omega
        have HS : Hid (mirT W H lt n (q + 1) = (mirT W H lt n q).set k v) := Lib.hid (by rw [mirT, hv, ← hk]; rfl)
        have C1 : Hid (∀ w, Calls Tryd.prog 76 #[mp W H (.slice (some ⟨b0, off, none⟩) n ct) (.slice Ar nr cr) (.slice Ad nd cd), .int .i64 (q : Int)] w fun e w' => e = .returned (.int .i64 (k : Int)) ∧ Kp w w') := Lib.hid fun w => by
          rw [hk]
          exact mirrorIndex_any W H _ _ _ _ w a b c e (by omega) hi1
        have OTq := Lib.hid ot
        have s1 : (Live5 wr.drew g (.int .i64 H) (.int .i64 W) (.slice (some ⟨tb, 0, none⟩) n n) (.slice none 0 0) (.slice none 0 0)) ∧ wr.drew.cell? ⟨w.heap.size, 0, none⟩ = some (.int .i64 W) ∧ wr.drew.cell? ⟨w.heap.size, 1, none⟩ = some (.int .i64 H) ∧ wr.drew.cell? ⟨w.heap.size, 2, none⟩ = some (.slice (some ⟨b0, off, none⟩) n ct) ∧ wr.drew.cell? ⟨w.heap.size, 3, none⟩ = some (.slice Ar nr cr) ∧ wr.drew.cell? ⟨w.heap.size, 4, none⟩ = some (.slice Ad nd cd) ∧ wr.drew.cell? ⟨b0, off + q, none⟩ = some (.int .i64 v) := ⟨lg, sm.1, sm.2.1, sm.2.2.1, sm.2.2.2.1, sm.2.2.2.2, a0⟩
        have hb0 : b0 < w.heap.size := cell_lt (hc q v hv)
        clear hc hv hmb hk ot
        go_wp2_with fail
        refine wp_region_held_drew (S := (fun w' => (Live5 w' g (.int .i64 H) (.int .i64 W) (.slice (some ⟨tb, 0, none⟩) n n) (.slice none 0 0) (.slice none 0 0)) ∧ w'.cell? ⟨w.heap.size, 0, none⟩ = some (.int .i64 W) ∧ w'.cell? ⟨w.heap.size, 1, none⟩ = some (.int .i64 H) ∧ w'.cell? ⟨w.heap.size, 2, none⟩ = some (.slice (some ⟨b0, off, none⟩) n ct) ∧ w'.cell? ⟨w.heap.size, 3, none⟩ = some (.slice Ar nr cr) ∧ w'.cell? ⟨w.heap.size, 4, none⟩ = some (.slice Ad nd cd) ∧ w'.cell? ⟨b0, off + q, none⟩ = some (.int .i64 v))) (by kernel_rfl) ?_ (fun hHeld => ?_)
        · exact s1
        refine wpAnyH_take (i := 0) (oi := ⟨some 23, _, _, _, _, _⟩) (v := ?_) rfl (by kernel_rfl) (by kernel_rfl) (by kernel_rfl) (fun _ _ _ h => h) (Or.inl ⟨by rfl, ?_⟩) (by assumption) ?_
        rotate_left
        · intro w hSw; (try dsimp only at hSw); go_simp; (all_goals with_reducible rfl)
        simp only [Act.put, List.setIfInBounds_toArray, List.set_cons_zero, List.set_cons_succ]
        refine wpAnyH_take (i := 1) (oi := ⟨some 24, _, _, _, _, _⟩) (v := ?_) rfl (by kernel_rfl) (by kernel_rfl) (by kernel_rfl) (fun _ _ _ h => h) (Or.inl ⟨by rfl, ?_⟩) (by assumption) ?_
        rotate_left
        · intro w hSw; (try dsimp only at hSw); go_simp; (all_goals with_reducible rfl)
        simp only [Act.put, List.setIfInBounds_toArray, List.set_cons_zero, List.set_cons_succ]
        refine wpAnyH_take (i := 2) (oi := ⟨some 25, _, _, _, _, _⟩) (v := ?_) rfl (by kernel_rfl) (by kernel_rfl) (by kernel_rfl) (fun _ _ _ h => h) (Or.inl ⟨by rfl, ?_⟩) (by assumption) ?_
        rotate_left
        · intro w hSw; (try dsimp only at hSw); go_simp; (all_goals with_reducible rfl)
        simp only [Act.put, List.setIfInBounds_toArray, List.set_cons_zero, List.set_cons_succ]
        refine wpAnyH_take (i := 3) (oi := ⟨some 26, _, _, _, _, _⟩) (v := ?_) rfl (by kernel_rfl) (by kernel_rfl) (by kernel_rfl) (fun _ _ _ h => h) (Or.inl ⟨by rfl, ?_⟩) (by assumption) ?_
        rotate_left
        · intro w hSw; (try dsimp only at hSw); go_simp; (all_goals with_reducible rfl)
        simp only [Act.put, List.setIfInBounds_toArray, List.set_cons_zero, List.set_cons_succ]
        refine wpAnyH_take (i := 5) (oi := ⟨some 28, _, _, _, _, _⟩) (v := ?_) rfl (by kernel_rfl) (by kernel_rfl) (by kernel_rfl) (fun _ _ _ h => h) (Or.inl ⟨by rfl, ?_⟩) (by assumption) ?_
        rotate_left
        · intro w hSw; (try dsimp only at hSw); go_simp; (all_goals with_reducible rfl)
        simp only [Act.put, List.setIfInBounds_toArray, List.set_cons_zero, List.set_cons_succ]
        refine wpAnyH_take (i := 6) (oi := ⟨some 29, _, _, _, _, _⟩) (v := ?_) rfl (by kernel_rfl) (by kernel_rfl) (by kernel_rfl) (fun _ _ _ h => h) (Or.inl ⟨by rfl, ?_⟩) (by assumption) ?_
        rotate_left
        · intro w hSw; (try dsimp only at hSw); go_simp; (all_goals with_reducible rfl)
        simp only [Act.put, List.setIfInBounds_toArray, List.set_cons_zero, List.set_cons_succ]
        refine wpAnyH_take (i := 7) (oi := ⟨some 30, _, _, _, _, _⟩) (v := ?_) rfl (by kernel_rfl) (by kernel_rfl) (by kernel_rfl) (fun _ _ _ h => h) (Or.inl ⟨by rfl, ?_⟩) (by assumption) ?_
        rotate_left
        · intro w hSw; (try dsimp only at hSw); go_simp; (all_goals with_reducible rfl)
        simp only [Act.put, List.setIfInBounds_toArray, List.set_cons_zero, List.set_cons_succ]
        refine wpAnyH_take (i := 8) (oi := ⟨some 31, _, _, _, _, _⟩) (v := ?_) rfl (by kernel_rfl) (by kernel_rfl) (by kernel_rfl) (fun _ _ _ h => h) (Or.inl ⟨by rfl, ?_⟩) (by assumption) ?_
        rotate_left
        · intro w hSw; (try dsimp only at hSw); go_simp; (all_goals with_reducible rfl)
        simp only [Act.put, List.setIfInBounds_toArray, List.set_cons_zero, List.set_cons_succ]
        refine wpAnyH_take (i := 9) (oi := ⟨some 32, _, _, _, _, _⟩) (v := ?_) rfl (by kernel_rfl) (by kernel_rfl) (by kernel_rfl) (fun _ _ _ h => h) (Or.inl ⟨by rfl, ?_⟩) (by assumption) ?_
        rotate_left
        · intro w hSw; (try dsimp only at hSw); go_simp; (all_goals with_reducible rfl)
        simp only [Act.put, List.setIfInBounds_toArray, List.set_cons_zero, List.set_cons_succ]
        refine wpAnyH_ready (rs := [4]) (by kernel_rfl) (by simp) ?_
        refine AllReadyH.cons (o := ⟨some 27, _, _, _, _, _⟩) rfl (fun K hK => ?_) AllReadyH.nil
        go_simp
        refine (C1.out _).mono ?_; rintro e1 w1 ⟨rfl, k1⟩; have s2 : (Live5 w1 g (.int .i64 H) (.int .i64 W) (.slice (some ⟨tb, 0, none⟩) n n) (.slice none 0 0) (.slice none 0 0)) ∧ w1.cell? ⟨w.heap.size, 0, none⟩ = some (.int .i64 W) ∧ w1.cell? ⟨w.heap.size, 1, none⟩ = some (.int .i64 H) ∧ w1.cell? ⟨w.heap.size, 2, none⟩ = some (.slice (some ⟨b0, off, none⟩) n ct) ∧ w1.cell? ⟨w.heap.size, 3, none⟩ = some (.slice Ar nr cr) ∧ w1.cell? ⟨w.heap.size, 4, none⟩ = some (.slice Ad nd cd) ∧ w1.cell? ⟨b0, off + q, none⟩ = some (.int .i64 v) := ⟨live5_keep k1 s1.1, k1.cell s1.2.1, k1.cell s1.2.2.1, k1.cell s1.2.2.2.1, k1.cell s1.2.2.2.2.1, k1.cell s1.2.2.2.2.2.1, k1.cell s1.2.2.2.2.2.2⟩; have k01 := Lib.hid ((Kp.refl wr).drew.trans k1)
        go_wp2_with fail
        refine hK.out _ _ ?_ (fun hHeld => ?_)
        · (try dsimp only); (first | assumption | exact s2 | exact s1)
        clear hK K
        try simp only [Act.put, List.setIfInBounds_toArray, List.set_cons_zero, List.set_cons_succ]
        refine wpAnyH_take (i := 10) (oi := ⟨some 33, _, _, _, _, _⟩) (v := ?_) rfl (by kernel_rfl) (by kernel_rfl) (by kernel_rfl) (fun _ _ _ h => h) (Or.inl ⟨by rfl, ?_⟩) (by assumption) ?_
        rotate_left
        · intro w hSw; (try dsimp only at hSw); go_simp; (all_goals with_reducible rfl)
        simp only [Act.put, List.setIfInBounds_toArray, List.set_cons_zero, List.set_cons_succ]
        have hb2 : w.heap.size + 2 ≤ tb := (World.ownsRow.lt OTq.out tb rfl).1
        obtain ⟨⟨u, hu⟩, hf, hput⟩ := (OTq.out.keep k01.out).put (mirT_length W H lt n q) hkn v
        have e1 : ¬ tb = g := fun x => hne x.symm
        have e2 : ¬ g = tb := hne
        have e3 : ¬ tb = w.heap.size := by omega
        have e9 : ¬ tb = b0 := by omega
        have e10 : ¬ b0 = tb := by omega
        have e4 : ¬ w.heap.size = tb := by omega
        have e5 : ¬ tb = w.heap.size + 1 := by omega
        have e6 : ¬ w.heap.size + 1 = tb := by omega
        have lv1 := live5_keep k01.out lv
        have km1 : Kp w w1 := km.trans k01.out
        obtain ⟨G, hG⟩ : ∃ G, G = (w1.setCell ⟨tb, k, none⟩ (.int .i64 v)) := ⟨_, rfl⟩
        have GL : (Live5 G g (.int .i64 H) (.int .i64 W) (.slice (some ⟨tb, 0, none⟩) n n) (.slice none 0 0) (.slice none 0 0)) ∧ G.cell? ⟨w.heap.size, 0, none⟩ = some (.int .i64 W) ∧ G.cell? ⟨w.heap.size, 1, none⟩ = some (.int .i64 H) ∧ G.cell? ⟨w.heap.size, 2, none⟩ = some (.slice (some ⟨b0, off, none⟩) n ct) ∧ G.cell? ⟨w.heap.size, 3, none⟩ = some (.slice Ar nr cr) ∧ G.cell? ⟨w.heap.size, 4, none⟩ = some (.slice Ad nd cd) ∧ G.cell? ⟨b0, off + q, none⟩ = some (.int .i64 v) := by
          rw [hG]
          exact ⟨⟨by simp [go_sem, *], by simp [go_sem, *], by simp [go_sem, *], by simp [go_sem, *], by simp [go_sem, *]⟩, by simp [go_sem, *], by simp [go_sem, *], by simp [go_sem, *], by simp [go_sem, *], by simp [go_sem, *], by simp [go_sem, *]⟩
        have GV : Live5 G (w.heap.size + 1) (.int .i64 0) (.int .i64 0) (.slice none 0 0) (.slice none 0 0) (.slice none 0 0) := by
          rw [hG]
          exact ⟨by simp [go_sem, *], by simp [go_sem, *], by simp [go_sem, *], by simp [go_sem, *], by simp [go_sem, *]⟩
        have GK : Kp w G := by
          rw [hG]
          exact km1.setCell (show w.heap.size ≤ tb by omega) _
        rw [← hG] at hput
        refine wpAnyH_ready (rs := [11]) (by kernel_rfl) (by simp) ?_
        refine AllReadyH.cons (o := ⟨none, _, _, _, _, _⟩) rfl (fun K hK => ?_) AllReadyH.nil
        go_simp
        go_wp2_with fail
        rw [← hG]
        refine hK.out _ _ GL (fun hHeld => ?_)
        clear hK K
        try simp only [Act.put, List.setIfInBounds_toArray, List.set_cons_zero, List.set_cons_succ]
        refine wpAnyH_done (by kernel_rfl) ?_ _
        go_wp2_with fail
        go_roundw
        case rel => subst hG; exact ⟨q + 1, by omega, by go_num, GL.1, by rw [HS.out]; exact hput, GV, ⟨GL.2.1, GL.2.2.1, GL.2.2.2.1, GL.2.2.2.2.1, GL.2.2.2.2.2.1⟩, GK⟩
        case measure => simp [intOf]; omega
      · obtain rfl : n = q := by omega
        rw [← HX.out] at ot
        have hb2 : w.heap.size + 2 ≤ tb := (World.ownsRow.lt ot tb rfl).1
        have OT := Lib.hid ot
        clear ot
        go_wp2_with fail
        refine (mirrorEdges_any W H _ _ _ _ _ _ _ lr _ a b c e (HT.out.keep km) (HL.out.keep km).rr HL.out.br HR.out).mono ?_
        rintro e2 w2 ⟨v2, rfl, o2, k2⟩
        rw [← HY.out] at o2
        obtain ⟨A2, c2, rfl⟩ := o2.slice
        obtain ⟨n2, hn2⟩ : ∃ m, y.length = m := ⟨_, rfl⟩
        rw [hn2] at o2 ⊢
        have hgr : g < wr.heap.size := cell_lt lg.1.1
        have htr : tb < wr.heap.size := (World.ownsRow.lt OT.out tb rfl).2
        have LG2 := live5_keep k2 lg
        have LV2 := live5_keep k2 lv
        have SM2 : w2.cell? ⟨w.heap.size, 0, none⟩ = some (.int .i64 W) ∧ w2.cell? ⟨w.heap.size, 1, none⟩ = some (.int .i64 H) ∧ w2.cell? ⟨w.heap.size, 2, none⟩ = some (.slice At n ct) ∧ w2.cell? ⟨w.heap.size, 3, none⟩ = some (.slice Ar nr cr) ∧ w2.cell? ⟨w.heap.size, 4, none⟩ = some (.slice Ad nd cd) := ⟨k2.cell sm.1, k2.cell sm.2.1, k2.cell sm.2.2.1, k2.cell sm.2.2.2.1, k2.cell sm.2.2.2.2⟩
        have KM2 := km.trans k2
        have e2 : ¬ g = w.heap.size := by omega
        have e4 : ¬ w.heap.size = g := by omega
        have e5 : w.heap.size + 1 < wr.heap.size := cell_lt lv.1.1
        have NG2 : (Value.slice A2 n2 c2).ownBlock ≠ some g := o2.not (by omega)
        have NT2 : (Value.slice A2 n2 c2).ownBlock ≠ some tb := o2.not (by omega)
        have B2 : wr.heap.size + 2 ≤ w2.heap.size ∨ True := Or.inr trivial
        have OT2 := Lib.hid (OT.out.keep k2)
        have O2 := Lib.hid o2
        have z2 := k2.size
        clear lg lv sm km k2 o2 B2
        go_wp2_with fail
        have K2' : Kp w (w2.setCell ⟨g, 3, none⟩ (.slice A2 n2 c2)) := KM2.setCell (show w.heap.size ≤ g by omega) _
        refine (mirrorEdges_any W H _ _ _ _ _ _ _ ld _ a b c e (HT.out.keep K2') (HL.out.keep K2').rd HL.out.bd HD.out).mono ?_
        rintro e3 w3 ⟨v3, rfl, o3, k3⟩
        rw [← HZ.out] at o3
        obtain ⟨A3, c3, rfl⟩ := o3.slice
        obtain ⟨n3, hn3⟩ : ∃ m, z.length = m := ⟨_, rfl⟩
        rw [hn3] at o3 ⊢
        have z3 := k3.size
        simp only [World.size_setCell] at z3 o3
        have LG3 : Live5 w3 g (.int .i64 H) (.int .i64 W) (.slice (some ⟨tb, 0, none⟩) n n) (.slice A2 n2 c2) (.slice none 0 0) := live5_keep k3 ⟨by simp [go_sem, *], by simp [go_sem, *], by simp [go_sem, *], by simp [go_sem, *], by simp [go_sem, *]⟩
        have e7 : ¬ g = w.heap.size + 1 := fun x => by omega
        have e8 : ¬ w.heap.size + 1 = g := fun x => by omega
        have LV3 : Live5 w3 (w.heap.size + 1) (.int .i64 0) (.int .i64 0) (.slice none 0 0) (.slice none 0 0) (.slice none 0 0) := live5_keep k3 ⟨by simp [go_sem, *], by simp [go_sem, *], by simp [go_sem, *], by simp [go_sem, *], by simp [go_sem, *]⟩
        have K3 : Kp w w3 := K2'.trans k3
        have OT3 := Lib.hid ((OT2.out.far (j := 3) (show (Value.slice (some ⟨tb, 0, none⟩) n n).ownBlock ≠ some g from fun x => hne (Option.some.inj x).symm) (.slice A2 n2 c2)).keep k3)
        have O23 := Lib.hid ((O2.out.far (j := 3) NG2 (.slice A2 n2 c2)).keep k3)
        have NG3 : (Value.slice A3 n3 c3).ownBlock ≠ some g := o3.not (by omega)
        have NT3 : (Value.slice A3 n3 c3).ownBlock ≠ some tb := o3.not (by omega)
        have D23 : Hid (∀ i, (Value.slice A2 n2 c2).ownBlock = some i → (Value.slice A3 n3 c3).ownBlock ≠ some i) := Lib.hid fun i hi hi' => by
          have h1 := (World.ownsRow.lt O2.out i hi).2
          have h2 := (World.ownsRow.lt o3 i hi').1
          omega
        have O3 := Lib.hid o3
        have NV2 : (Value.slice A2 n2 c2).ownBlock ≠ some (w.heap.size + 1) := O2.out.not (by omega)
        have NV3 : (Value.slice A3 n3 c3).ownBlock ≠ some (w.heap.size + 1) := O3.out.not (by omega)
        have NVT : (Value.slice (some ⟨tb, 0, none⟩) n n).ownBlock ≠ some (w.heap.size + 1) := OT.out.not (by omega)
        have NTG : (Value.slice (some ⟨tb, 0, none⟩) n n).ownBlock ≠ some g := fun x => hne (Option.some.inj x).symm
        have DT2 : Hid (∀ i, (Value.slice (some ⟨tb, 0, none⟩) n n).ownBlock = some i → (Value.slice A2 n2 c2).ownBlock ≠ some i) := Lib.hid fun i hi => by
          obtain rfl := Option.some.inj hi
          exact NT2
        have DT3 : Hid (∀ i, (Value.slice (some ⟨tb, 0, none⟩) n n).ownBlock = some i → (Value.slice A3 n3 c3).ownBlock ≠ some i) := Lib.hid fun i hi => by
          obtain rfl := Option.some.inj hi
          exact NT3
        clear K2' k3 o3 LG2 LV2 SM2 KM2 OT2 O2
        go_wp2_with fail
        refine bodyPost_ret (v := .tuple #[mp H W (.slice (some ⟨tb, 0, none⟩) n n) (.slice A2 n2 c2) (.slice A3 n3 c3), .bool true]) (by simp [results, Tryd.results31, go_sem, *]) rfl ⟨_, _, _, rfl, ⟨?_, ?_, ?_, DT2.out, DT3.out, D23.out⟩, ?_⟩
        · exact ((((((OT3.out.far NTG _).far NVT _).far NVT _).far NVT _).far NVT _).far NVT _).base (by omega)
        · exact ((((((O23.out.far NG2 _).far NV2 _).far NV2 _).far NV2 _).far NV2 _).far NV2 _).base (by omega)
        · exact ((((((O3.out.far NG3 _).far NV3 _).far NV3 _).far NV3 _).far NV3 _).far NV3 _).base (by omega)
        · exact (((((K3.setCell (show w.heap.size ≤ g by omega) _).setCell (show w.heap.size ≤ w.heap.size + 1 by omega) _).setCell (show w.heap.size ≤ w.heap.size + 1 by omega) _).setCell (show w.heap.size ≤ w.heap.size + 1 by omega) _).setCell (show w.heap.size ≤ w.heap.size + 1 by omega) _).setCell (show w.heap.size ≤ w.heap.size + 1 by omega) _

set_option maxRecDepth 100000 in
set_option maxHeartbeats 4000000 in
theorem specMirrorMap_no (W H : Int) (t r d : Value) (lt lr ld : List Int) (w : World) (hL : Lists w t r d lt lr ld) (hok : mapOk W H lt lr ld = false) :
    Calls Tryd.prog 29 #[mp W H t r d] w (MapPost false 0 0 [] [] [] w) := by
  have KA : Kp w ((w.alloc (.cells #[.int .i64 W, .int .i64 H, t, r, d] 44)).alloc (.cells #[.int .i64 0, .int .i64 0, .slice none 0 0, .slice none 0 0, .slice none 0 0] 44)) := ((Kp.refl w).alloc _).alloc _
  have CI := Lib.hid (mGood_any W H t r d lt lr ld _ (hL.keep KA))
  rw [hok] at CI
  clear hL hok
  go_enter Tryd.func29, Tryd.ntmps29
  go_wp2_with fail
  refine CI.out.mono ?_
  rintro e0 wa ⟨rfl, ka⟩
  have L0 : Live5 wa (w.heap.size + 1) (.int .i64 0) (.int .i64 0) (.slice none 0 0) (.slice none 0 0) (.slice none 0 0) := live5_keep ka ⟨by simp [go_sem], by simp [go_sem], by simp [go_sem], by simp [go_sem], by simp [go_sem]⟩
  have K0 : Kp w wa := KA.trans ka
  clear ka CI KA
  go_wp2_with fail
  refine bodyPost_ret (v := .tuple #[mp 0 0 (.slice none 0 0) (.slice none 0 0) (.slice none 0 0), .bool false]) (by simp [results, Tryd.results29, go_sem, *]) rfl ⟨_, _, _, rfl, own3_nil _ _, ?_⟩
  exact ((((K0.setCell (show w.heap.size ≤ w.heap.size + 1 by omega) _).setCell (show w.heap.size ≤ w.heap.size + 1 by omega) _).setCell (show w.heap.size ≤ w.heap.size + 1 by omega) _).setCell (show w.heap.size ≤ w.heap.size + 1 by omega) _).setCell (show w.heap.size ≤ w.heap.size + 1 by omega) _

set_option maxRecDepth 100000 in
set_option maxHeartbeats 4000000 in
theorem specMirrorMap_yes (W H : Int) (t r d : Value) (lt lr ld : List Int) (w : World) (hL : Lists w t r d lt lr ld) (hok : mapOk W H lt lr ld = true) :
    Calls Tryd.prog 29 #[mp W H t r d] w (MapPost true H W (mirT W H lt lt.length lt.length) ((lr.map (mirE W H)).mergeSort fun x y => decide (x ≤ y)) ((ld.map (mirE W H)).mergeSort fun x y => decide (x ≤ y)) w) := by
  obtain ⟨⟨a, b, c, e⟩, hn, hr, hd⟩ := mapOk_pt hok
  have KA : Kp w ((w.alloc (.cells #[.int .i64 W, .int .i64 H, t, r, d] 44)).alloc (.cells #[.int .i64 0, .int .i64 0, .slice none 0 0, .slice none 0 0, .slice none 0 0] 44)) := ((Kp.refl w).alloc _).alloc _
  have CI := Lib.hid (mGood_any W H t r d lt lr ld _ (hL.keep KA))
  rw [hok] at CI
  have CM := Lib.hid (fun w' (k : Kp w w') => mMirror_any W H t r d lt lr ld w' a b c e (hL.keep k) hn hr hd)
  obtain ⟨x, hx⟩ : ∃ x, x = mirT W H lt lt.length lt.length := ⟨_, rfl⟩
  obtain ⟨y, hy⟩ : ∃ y, y = ((lr.map (mirE W H)).mergeSort fun x y => decide (x ≤ y)) := ⟨_, rfl⟩
  obtain ⟨z, hz⟩ : ∃ z, z = ((ld.map (mirE W H)).mergeSort fun x y => decide (x ≤ y)) := ⟨_, rfl⟩
  rw [← hx, ← hy, ← hz] at CM ⊢
  clear hL hok a b c e hn hr hd hx hy hz
  go_enter Tryd.func29, Tryd.ntmps29
  go_wp2_with fail
  refine CI.out.mono ?_
  rintro e0 wa ⟨rfl, ka⟩
  have m0 : wa.cell? ⟨w.heap.size, 0, none⟩ = some (.int .i64 W) ∧ wa.cell? ⟨w.heap.size, 1, none⟩ = some (.int .i64 H) ∧ wa.cell? ⟨w.heap.size, 2, none⟩ = some t ∧ wa.cell? ⟨w.heap.size, 3, none⟩ = some r ∧ wa.cell? ⟨w.heap.size, 4, none⟩ = some d := ⟨ka.cell (by simp [go_sem]), ka.cell (by simp [go_sem]), ka.cell (by simp [go_sem]), ka.cell (by simp [go_sem]), ka.cell (by simp [go_sem])⟩
  have L0 : Live5 wa (w.heap.size + 1) (.int .i64 0) (.int .i64 0) (.slice none 0 0) (.slice none 0 0) (.slice none 0 0) := live5_keep ka ⟨by simp [go_sem], by simp [go_sem], by simp [go_sem], by simp [go_sem], by simp [go_sem]⟩
  have K0 : Kp w wa := KA.trans ka
  have z0 : w.heap.size + 2 ≤ wa.heap.size := by have := ka.size; simp at this; omega
  clear ka CI KA
  go_wp2_with fail
  refine (CM.out _ K0).mono ?_
  rintro e1 w1 ⟨t', r', d', rfl, o, k1⟩
  have L1 := live5_keep k1 L0
  have K1 := K0.trans k1
  obtain ⟨A1, c1, rfl⟩ := o.ot.slice
  obtain ⟨A2, c2, rfl⟩ := o.or.slice
  obtain ⟨A3, c3, rfl⟩ := o.od.slice
  have N1 := o.ot.not (g := w.heap.size + 1) (by omega)
  have N2 := o.or.not (g := w.heap.size + 1) (by omega)
  have N3 := o.od.not (g := w.heap.size + 1) (by omega)
  have HO := Lib.hid o
  generalize x.length = n1 at *
  generalize y.length = n2 at *
  generalize z.length = n3 at *
  clear m0 k1 o L0 K0
  go_wp2_with fail
  refine bodyPost_ret (v := .tuple #[mp H W (.slice A1 n1 c1) (.slice A2 n2 c2) (.slice A3 n3 c3), .bool true]) (by simp [results, Tryd.results29, go_sem, *]) rfl ⟨_, _, _, rfl, Own3.base' ⟨?_, ?_, ?_, HO.out.tr, HO.out.td, HO.out.rd⟩ (show w.heap.size ≤ wa.heap.size by omega), ?_⟩
  · exact (((((HO.out.ot.far N1 _).far N1 _).far N1 _).far N1 _).far N1 _)
  · exact (((((HO.out.or.far N2 _).far N2 _).far N2 _).far N2 _).far N2 _)
  · exact (((((HO.out.od.far N3 _).far N3 _).far N3 _).far N3 _).far N3 _)
  · exact ((((K1.setCell (show w.heap.size ≤ w.heap.size + 1 by omega) _).setCell (show w.heap.size ≤ w.heap.size + 1 by omega) _).setCell (show w.heap.size ≤ w.heap.size + 1 by omega) _).setCell (show w.heap.size ≤ w.heap.size + 1 by omega) _).setCell (show w.heap.size ≤ w.heap.size + 1 by omega) _

end Go.Proofs.YtcdfbcmfpeceeaaDoor
