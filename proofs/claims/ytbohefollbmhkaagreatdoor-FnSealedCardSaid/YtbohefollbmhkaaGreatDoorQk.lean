/-
  Texts of this seat in one module: SlQ.
-/
import Derived.Test.YtbohefollbmhkaaGreatDoorQi
import Derived.Test.YtbohefollbmhkaaGreatDoorQj

/-
  The seal of an opening by the reference; whether a seal opens to an opening, by both sides. Nothing that was there is changed. The named variables hold what the program's text lays.
-/
namespace Go.Proofs.YtbohefollbmhkaaGreatDoor
open Go.RowKit

set_option maxRecDepth 100000 in
set_option maxHeartbeats 4000000 in
theorem eOpening_any (n : Int) (x : ByteArray) (w : World) :
    Calls Tryz.prog 27 #[opx n x] w fun e w' => e = .returned (.bool (opnB ⟨n, x⟩)) ∧ Kp w w' := by
  have C0 := Lib.hid (fun w => dSeed_any n w)
  cases h0 : seedB n
  · rw [h0] at C0
    have hO : opnB ⟨n, x⟩ = false := by first | (unfold opnB; rw [h0]; rfl) | simp [opnB, h0]
    rw [hO]
    go_enter Tryz.func27, Tryz.ntmps27
    go_wp2_with fail
    refine (C0.out _).mono ?_
    rintro e1 w1 ⟨rfl, rfl⟩
    go_wp2_with fail
    go_ret
    exact ⟨rfl, (Kp.refl w).alloc _⟩
  · rw [h0] at C0
    cases h1 : decide (x.size ≤ 150)
    · have hO : opnB ⟨n, x⟩ = false := by first | (unfold opnB; rw [h0, h1]; rfl) | simp [opnB, h0, h1]
      rw [hO]
      have hq : ¬ ((x.size : Int) ≤ 150) := by have := of_decide_eq_false h1; omega
      have hq1 : decide ((x.size : Int) ≤ 150) = false := decide_eq_false hq
      go_enter Tryz.func27, Tryz.ntmps27
      go_wp2_with fail
      refine (C0.out _).mono ?_
      rintro e1 w1 ⟨rfl, rfl⟩
      go_wp2_with fail
      go_ret
      exact ⟨rfl, (Kp.refl w).alloc _⟩
    · have hO : opnB ⟨n, x⟩ = true := by first | (unfold opnB; rw [h0, h1]; rfl) | simp [opnB, h0, h1]
      rw [hO]
      clear hO
      have hq : (x.size : Int) ≤ 150 := by have := of_decide_eq_true h1; omega
      have hq1 : decide ((x.size : Int) ≤ 150) = true := decide_eq_true hq
      go_enter Tryz.func27, Tryz.ntmps27
      go_wp2_with fail
      refine (C0.out _).mono ?_
      rintro e1 w1 ⟨rfl, rfl⟩
      go_wp2_with fail
      go_ret
      exact ⟨rfl, (Kp.refl w).alloc _⟩

set_option maxRecDepth 100000 in
set_option maxHeartbeats 4000000 in
theorem eSealW_any (t s n : Int) (x : ByteArray) (w : World) (hx : x.size ≤ 1000) :
    Calls Tryz.prog 28 #[.int .i64 t, .int .i64 s, opx n x] w fun e w' => e = .returned (slx t s (selN t s n x)) ∧ Kp w w' := by
  have hD : selN t s n x = hashN (mixL ([11, t, s, n] ++ byL x x.size)) := rfl
  rw [hD]
  clear hD
  have HL := Lib.hid (byL_len x x.size)
  have CB := Lib.hid (fun w => dBytes_any x w (by omega))
  generalize byL x x.size = L at *
  obtain ⟨M, hM⟩ : ∃ M, M = [11, t, s, n] ++ L := ⟨_, rfl⟩
  have hml : M.length ≤ 2000 := by rw [hM]; have := HL.out; simp; omega
  rw [← hM]
  have HM := Lib.hid hM
  clear hM
  have CM := Lib.hid (fun v w h => dHash_any v M w h (by omega))
  generalize hashN (mixL M) = X at *
  have K0 : Kp w ((w.alloc (.cells #[.int .i64 n, .string x] 25)).alloc (.cells #[.int .i64 0, .int .i64 0, .int .i64 0] 29)) := ((Kp.refl _).alloc _).alloc _
  have S0 : ((w.alloc (.cells #[.int .i64 n, .string x] 25)).alloc (.cells #[.int .i64 0, .int .i64 0, .int .i64 0] 29)).cell? ⟨w.heap.size, 0, none⟩ = some (.int .i64 n) ∧ ((w.alloc (.cells #[.int .i64 n, .string x] 25)).alloc (.cells #[.int .i64 0, .int .i64 0, .int .i64 0] 29)).cell? ⟨w.heap.size, 1, none⟩ = some (.string x) := ⟨by simp [go_sem], by simp [go_sem]⟩
  have T0 : Bx3 ((w.alloc (.cells #[.int .i64 n, .string x] 25)).alloc (.cells #[.int .i64 0, .int .i64 0, .int .i64 0] 29)) (w.heap.size + 1) 0 0 0 := by
    have := Bx3.new (w.alloc (.cells #[.int .i64 n, .string x] 25)) 0 0 0 29
    simpa using this
  have z0 : w.heap.size + 2 ≤ ((w.alloc (.cells #[.int .i64 n, .string x] 25)).alloc (.cells #[.int .i64 0, .int .i64 0, .int .i64 0] 29)).heap.size := by simp
  go_enter Tryz.func28, Tryz.ntmps28
  go_upto_region 1 with fail
  generalize ((w.alloc (.cells #[.int .i64 n, .string x] 25)).alloc (.cells #[.int .i64 0, .int .i64 0, .int .i64 0] 29)) = W0 at *
  refine wp_region_held_drew (S := (fun w' => w'.cell? ⟨w.heap.size, 0, none⟩ = some (.int .i64 n) ∧ w'.cell? ⟨w.heap.size, 1, none⟩ = some (.string x))) (by kernel_rfl) ?_ (fun hHeld => ?_)
  · exact S0
  refine wpAnyH_take (i := 0) (oi := ⟨some 7, _, _, _, _, _⟩) (v := ?_) rfl (by kernel_rfl) (by kernel_rfl) (by kernel_rfl) (fun _ _ _ h => h) (Or.inl ⟨by rfl, ?_⟩) (by assumption) ?_
  rotate_left
  · intro w hSw; (try dsimp only at hSw); go_simp; (all_goals with_reducible rfl)
  simp only [Act.put, List.setIfInBounds_toArray, List.set_cons_zero, List.set_cons_succ]
  refine wpAnyH_take (i := 1) (oi := ⟨some 8, _, _, _, _, _⟩) (v := ?_) rfl (by kernel_rfl) (by kernel_rfl) (by kernel_rfl) (fun _ _ _ h => h) (Or.inl ⟨by rfl, ?_⟩) (by assumption) ?_
  rotate_left
  · intro w hSw; (try dsimp only at hSw); go_simp; (all_goals with_reducible rfl)
  simp only [Act.put, List.setIfInBounds_toArray, List.set_cons_zero, List.set_cons_succ]
  refine wpAnyH_take (i := 2) (oi := ⟨some 9, _, _, _, _, _⟩) (v := ?_) rfl (by kernel_rfl) (by kernel_rfl) (by kernel_rfl) (fun _ _ _ h => h) (Or.inl ⟨by rfl, ?_⟩) (by assumption) ?_
  rotate_left
  · intro w hSw; (try dsimp only at hSw); go_simp; (all_goals with_reducible rfl)
  simp only [Act.put, List.setIfInBounds_toArray, List.set_cons_zero, List.set_cons_succ]
  refine wpAnyH_take (i := 3) (oi := ⟨some 10, _, _, _, _, _⟩) (v := ?_) rfl (by kernel_rfl) (by kernel_rfl) (by kernel_rfl) (fun _ _ _ h => h) (Or.inl ⟨by rfl, ?_⟩) (by assumption) ?_
  rotate_left
  · intro w hSw; (try dsimp only at hSw); go_simp; (all_goals with_reducible rfl)
  simp only [Act.put, List.setIfInBounds_toArray, List.set_cons_zero, List.set_cons_succ]
  refine wpAnyH_take (i := 4) (oi := ⟨some 11, _, _, _, _, _⟩) (v := ?_) rfl (by kernel_rfl) (by kernel_rfl) (by kernel_rfl) (fun _ _ _ h => h) (Or.inl ⟨by rfl, ?_⟩) (by assumption) ?_
  rotate_left
  · intro w hSw; (try dsimp only at hSw); go_simp; (all_goals with_reducible rfl)
  simp only [Act.put, List.setIfInBounds_toArray, List.set_cons_zero, List.set_cons_succ]
  refine wpAnyH_take (i := 5) (oi := ⟨some 12, _, _, _, _, _⟩) (v := ?_) rfl (by kernel_rfl) (by kernel_rfl) (by kernel_rfl) (fun _ _ _ h => h) (Or.inl ⟨by rfl, ?_⟩) (by assumption) ?_
  rotate_left
  · intro w hSw; (try dsimp only at hSw); go_simp; (all_goals with_reducible rfl)
  simp only [Act.put, List.setIfInBounds_toArray, List.set_cons_zero, List.set_cons_succ]
  refine wpAnyH_take (i := 7) (oi := ⟨some 14, _, _, _, _, _⟩) (v := ?_) rfl (by kernel_rfl) (by kernel_rfl) (by kernel_rfl) (fun _ _ _ h => h) (Or.inl ⟨by rfl, ?_⟩) (by assumption) ?_
  rotate_left
  · intro w hSw; (try dsimp only at hSw); go_simp; (all_goals with_reducible rfl)
  simp only [Act.put, List.setIfInBounds_toArray, List.set_cons_zero, List.set_cons_succ]
  refine wpAnyH_take (i := 8) (oi := ⟨some 15, _, _, _, _, _⟩) (v := ?_) rfl (by kernel_rfl) (by kernel_rfl) (by kernel_rfl) (fun _ _ _ h => h) (Or.inl ⟨by rfl, ?_⟩) (by assumption) ?_
  rotate_left
  · intro w hSw; (try dsimp only at hSw); go_simp; (all_goals with_reducible rfl)
  simp only [Act.put, List.setIfInBounds_toArray, List.set_cons_zero, List.set_cons_succ]
  have KD := K0.drew
  have TD := T0.drew
  have SD : W0.drew.cell? ⟨w.heap.size, 0, none⟩ = some (.int .i64 n) ∧ W0.drew.cell? ⟨w.heap.size, 1, none⟩ = some (.string x) := hHeld
  have zD : w.heap.size + 2 ≤ W0.drew.heap.size := z0
  clear hHeld S0 K0 T0 z0
  generalize W0.drew = WD at *
  have hHeld := SD
  refine wpAnyH_ready (rs := [6, 9]) (by kernel_rfl) (by simp) ?_
  refine (AllReadyH.cons (o := ⟨some 13, _, _, _, _, _⟩) rfl (fun K hK => ?_) (AllReadyH.cons (o := ⟨some 16, _, _, _, _, _⟩) rfl (fun K hK => ?_) AllReadyH.nil))
  · go_simp
    go_wp2_with fail
    have OX := Lib.hid (own_four WD WD.heap.size 11 t s n (Nat.le_refl _))
    have K1 := KD.alloc (.cells #[.int .i64 11, .int .i64 t, .int .i64 s, .int .i64 n] 3)
    have D1 := (Kp.refl WD).alloc (.cells #[.int .i64 11, .int .i64 t, .int .i64 s, .int .i64 n] 3)
    have S1 : (WD.alloc (.cells #[.int .i64 11, .int .i64 t, .int .i64 s, .int .i64 n] 3)).cell? ⟨w.heap.size, 0, none⟩ = some (.int .i64 n) ∧ (WD.alloc (.cells #[.int .i64 11, .int .i64 t, .int .i64 s, .int .i64 n] 3)).cell? ⟨w.heap.size, 1, none⟩ = some (.string x) := ⟨D1.cell hHeld.1, D1.cell hHeld.2⟩
    generalize WD.alloc (.cells #[.int .i64 11, .int .i64 t, .int .i64 s, .int .i64 n] 3) = W1 at *
    refine hK.out _ _ ?_ (fun hHeld => ?_)
    · (try dsimp only); (exact S1)
    clear hK K
    try simp only [Act.put, List.setIfInBounds_toArray, List.set_cons_zero, List.set_cons_succ]
    refine wpAnyH_ready (rs := [9]) (by kernel_rfl) (by simp) ?_
    refine (AllReadyH.cons (o := ⟨some 16, _, _, _, _, _⟩) rfl (fun K hK => ?_) AllReadyH.nil)
    go_simp
    refine (CB.out _).mono ?_
    rintro e2 w2 ⟨v2, rfl, o2, k2⟩
    have OX2 := Lib.hid (OX.out.keep k2)
    have RX := Lib.hid o2.rd
    have KX := K1.trans k2
    have DX := D1.trans k2
    have S2 : w2.cell? ⟨w.heap.size, 0, none⟩ = some (.int .i64 n) ∧ w2.cell? ⟨w.heap.size, 1, none⟩ = some (.string x) := ⟨k2.cell S1.1, k2.cell S1.2⟩
    clear o2 k2 OX K1 D1 S1
    go_wp2_with fail
    refine hK.out _ _ ?_ (fun hHeld => ?_)
    · (try dsimp only); (exact S2)
    clear hK K
    try simp only [Act.put, List.setIfInBounds_toArray, List.set_cons_zero, List.set_cons_succ]
    refine wpAnyH_ready (rs := [10]) (by kernel_rfl) (by simp) ?_
    refine (AllReadyH.cons (o := ⟨some 17, _, _, _, _, _⟩) rfl (fun K hK => ?_) AllReadyH.nil)
    refine step_append_ints (.tmp 13) (.tmp 16) rfl WD.heap.size _ _ [11, t, s, n] L rfl rfl OX2.out RX.out (by have := HL.out; simp; omega) DX.size (fun v5 w5 own5 grow5 => ?_)
    have O5 : Hid (OwnI w5 WD.heap.size v5 M) := Lib.hid (by rw [HM.out]; exact own5)
    have K5 := KX.appended OX2.out grow5 (Nat.le_trans (Nat.le_add_right _ 2) zD)
    have D5 := DX.appended OX2.out grow5 (Nat.le_refl _)
    clear own5 grow5
    have S5 : w5.cell? ⟨w.heap.size, 0, none⟩ = some (.int .i64 n) ∧ w5.cell? ⟨w.heap.size, 1, none⟩ = some (.string x) := ⟨D5.cell SD.1, D5.cell SD.2⟩
    refine hK.out _ _ ?_ (fun hHeld => ?_)
    · (try dsimp only); (exact S5)
    clear hK K
    try simp only [Act.put, List.setIfInBounds_toArray, List.set_cons_zero, List.set_cons_succ]
    refine wpAnyH_ready (rs := [11]) (by kernel_rfl) (by simp) ?_
    refine (AllReadyH.cons (o := ⟨some 18, _, _, _, _, _⟩) rfl (fun K hK => ?_) AllReadyH.nil)
    go_simp
    refine (CM.out _ _ O5.out.rd).mono ?_
    rintro e6 w6 ⟨rfl, rfl⟩
    go_wp2_with fail
    refine hK.out _ _ ?_ (fun hHeld => ?_)
    · (try dsimp only); (exact S5)
    clear hK K
    try simp only [Act.put, List.setIfInBounds_toArray, List.set_cons_zero, List.set_cons_succ]
    refine wpAnyH_take (i := 12) (oi := ⟨some 19, _, _, _, _, _⟩) (v := ?_) rfl (by kernel_rfl) (by kernel_rfl) (by kernel_rfl) (fun _ _ _ h => h) (Or.inl ⟨by rfl, ?_⟩) (by assumption) ?_
    rotate_left
    · intro w hSw; (try dsimp only at hSw); go_simp; (all_goals with_reducible rfl)
    simp only [Act.put, List.setIfInBounds_toArray, List.set_cons_zero, List.set_cons_succ]
    obtain ⟨⟨c0, c1, c2⟩, f0, f1, f2⟩ := TD.keep D5
    refine wpAnyH_ready (rs := [13]) (by kernel_rfl) (by simp) ?_
    refine (AllReadyH.cons (o := ⟨none, _, _, _, _, _⟩) rfl (fun K hK => ?_) AllReadyH.nil)
    go_simp
    go_wp2_with fail
    refine hK.out _ _ ?_ (fun hHeld => ?_)
    · (try dsimp only); (exact ⟨by simp [go_sem, *], by simp [go_sem, *]⟩)
    clear hK K
    try simp only [Act.put, List.setIfInBounds_toArray, List.set_cons_zero, List.set_cons_succ]
    refine wpAnyH_done (by kernel_rfl) ?_ _
    go_wp2_with fail
    exact bodyPost_ret (v := slx t s X) (by simp [results, Tryz.results28, go_sem, *]) rfl ⟨rfl, ((K5.setCell (by simp) _).setCell (by simp) _).setCell (by simp) _⟩
  · go_simp
    refine (CB.out _).mono ?_
    rintro e2 w1 ⟨v2, rfl, o2, k2⟩
    have S1 : w1.cell? ⟨w.heap.size, 0, none⟩ = some (.int .i64 n) ∧ w1.cell? ⟨w.heap.size, 1, none⟩ = some (.string x) := ⟨k2.cell hHeld.1, k2.cell hHeld.2⟩
    go_wp2_with fail
    refine hK.out _ _ ?_ (fun hHeld => ?_)
    · (try dsimp only); (exact S1)
    clear hK K
    try simp only [Act.put, List.setIfInBounds_toArray, List.set_cons_zero, List.set_cons_succ]
    refine wpAnyH_ready (rs := [6]) (by kernel_rfl) (by simp) ?_
    refine (AllReadyH.cons (o := ⟨some 13, _, _, _, _, _⟩) rfl (fun K hK => ?_) AllReadyH.nil)
    go_simp
    go_wp2_with fail
    have OX2 := Lib.hid (own_four w1 WD.heap.size 11 t s n k2.size)
    have RX := Lib.hid (o2.rd.keep ((Kp.refl w1).alloc (.cells #[.int .i64 11, .int .i64 t, .int .i64 s, .int .i64 n] 3)))
    have KX := (KD.trans k2).alloc (.cells #[.int .i64 11, .int .i64 t, .int .i64 s, .int .i64 n] 3)
    have DX := k2.alloc (.cells #[.int .i64 11, .int .i64 t, .int .i64 s, .int .i64 n] 3)
    have S2 : (w1.alloc (.cells #[.int .i64 11, .int .i64 t, .int .i64 s, .int .i64 n] 3)).cell? ⟨w.heap.size, 0, none⟩ = some (.int .i64 n) ∧ (w1.alloc (.cells #[.int .i64 11, .int .i64 t, .int .i64 s, .int .i64 n] 3)).cell? ⟨w.heap.size, 1, none⟩ = some (.string x) := ⟨((Kp.refl w1).alloc (.cells #[.int .i64 11, .int .i64 t, .int .i64 s, .int .i64 n] 3)).cell S1.1, ((Kp.refl w1).alloc (.cells #[.int .i64 11, .int .i64 t, .int .i64 s, .int .i64 n] 3)).cell S1.2⟩
    generalize w1.alloc (.cells #[.int .i64 11, .int .i64 t, .int .i64 s, .int .i64 n] 3) = w2 at *
    refine hK.out _ _ ?_ (fun hHeld => ?_)
    · (try dsimp only); (exact S2)
    clear hK K
    try simp only [Act.put, List.setIfInBounds_toArray, List.set_cons_zero, List.set_cons_succ]
    refine wpAnyH_ready (rs := [10]) (by kernel_rfl) (by simp) ?_
    refine (AllReadyH.cons (o := ⟨some 17, _, _, _, _, _⟩) rfl (fun K hK => ?_) AllReadyH.nil)
    refine step_append_ints (.tmp 13) (.tmp 16) rfl WD.heap.size _ _ [11, t, s, n] L rfl rfl OX2.out RX.out (by have := HL.out; simp; omega) DX.size (fun v5 w5 own5 grow5 => ?_)
    have O5 : Hid (OwnI w5 WD.heap.size v5 M) := Lib.hid (by rw [HM.out]; exact own5)
    have K5 := KX.appended OX2.out grow5 (Nat.le_trans (Nat.le_add_right _ 2) zD)
    have D5 := DX.appended OX2.out grow5 (Nat.le_refl _)
    clear own5 grow5
    have S5 : w5.cell? ⟨w.heap.size, 0, none⟩ = some (.int .i64 n) ∧ w5.cell? ⟨w.heap.size, 1, none⟩ = some (.string x) := ⟨D5.cell SD.1, D5.cell SD.2⟩
    refine hK.out _ _ ?_ (fun hHeld => ?_)
    · (try dsimp only); (exact S5)
    clear hK K
    try simp only [Act.put, List.setIfInBounds_toArray, List.set_cons_zero, List.set_cons_succ]
    refine wpAnyH_ready (rs := [11]) (by kernel_rfl) (by simp) ?_
    refine (AllReadyH.cons (o := ⟨some 18, _, _, _, _, _⟩) rfl (fun K hK => ?_) AllReadyH.nil)
    go_simp
    refine (CM.out _ _ O5.out.rd).mono ?_
    rintro e6 w6 ⟨rfl, rfl⟩
    go_wp2_with fail
    refine hK.out _ _ ?_ (fun hHeld => ?_)
    · (try dsimp only); (exact S5)
    clear hK K
    try simp only [Act.put, List.setIfInBounds_toArray, List.set_cons_zero, List.set_cons_succ]
    refine wpAnyH_take (i := 12) (oi := ⟨some 19, _, _, _, _, _⟩) (v := ?_) rfl (by kernel_rfl) (by kernel_rfl) (by kernel_rfl) (fun _ _ _ h => h) (Or.inl ⟨by rfl, ?_⟩) (by assumption) ?_
    rotate_left
    · intro w hSw; (try dsimp only at hSw); go_simp; (all_goals with_reducible rfl)
    simp only [Act.put, List.setIfInBounds_toArray, List.set_cons_zero, List.set_cons_succ]
    obtain ⟨⟨c0, c1, c2⟩, f0, f1, f2⟩ := TD.keep D5
    refine wpAnyH_ready (rs := [13]) (by kernel_rfl) (by simp) ?_
    refine (AllReadyH.cons (o := ⟨none, _, _, _, _, _⟩) rfl (fun K hK => ?_) AllReadyH.nil)
    go_simp
    go_wp2_with fail
    refine hK.out _ _ ?_ (fun hHeld => ?_)
    · (try dsimp only); (exact ⟨by simp [go_sem, *], by simp [go_sem, *]⟩)
    clear hK K
    try simp only [Act.put, List.setIfInBounds_toArray, List.set_cons_zero, List.set_cons_succ]
    refine wpAnyH_done (by kernel_rfl) ?_ _
    go_wp2_with fail
    exact bodyPost_ret (v := slx t s X) (by simp [results, Tryz.results28, go_sem, *]) rfl ⟨rfl, ((K5.setCell (by simp) _).setCell (by simp) _).setCell (by simp) _⟩

theorem eSeal_any (t s n : Int) (x : ByteArray) (w : World) (hx : x.size ≤ 150) :
    Calls Tryz.prog 28 #[.int .i64 t, .int .i64 s, opx n x] w fun e w' => e = .returned (slx t s (selN t s n x)) ∧ Kp w w' := eSealW_any t s n x w (by omega)
theorem keep6k {w w1 w2 : World} {p0 p1 p2 p3 p4 : Addr} {v0 v1 v2 v3 v4 : Value} (k : Kp w1 w2) (h : w1.cell? p0 = some v0 ∧ w1.cell? p1 = some v1 ∧ w1.cell? p2 = some v2 ∧ w1.cell? p3 = some v3 ∧ w1.cell? p4 = some v4 ∧ Kp w w1) : w2.cell? p0 = some v0 ∧ w2.cell? p1 = some v1 ∧ w2.cell? p2 = some v2 ∧ w2.cell? p3 = some v3 ∧ w2.cell? p4 = some v4 ∧ Kp w w2 :=
  ⟨k.cell h.1, k.cell h.2.1, k.cell h.2.2.1, k.cell h.2.2.2.1, k.cell h.2.2.2.2.1, h.2.2.2.2.2.trans k⟩
set_option maxRecDepth 100000 in
set_option maxHeartbeats 4000000 in
theorem opensToP_any (t s y n : Int) (x : ByteArray) (w : World) (hx : x.size ≤ 150) (hT : Lib.Utf8Tabs 6 7 w) :
    Calls Tryz.prog 30 #[slx t s y, opx n x] w fun e w' => e = .returned (.bool (opnsB ⟨t, s, y⟩ ⟨n, x⟩)) ∧ Kp w w' := by
  have HT := Lib.hid hT
  have CS := Lib.hid (fun w hT => sealOfP_any t s n x w hx hT)
  have hD : opnsB ⟨t, s, y⟩ ⟨n, x⟩ = (y == selN t s n x) := rfl
  rw [hD]
  clear hD
  generalize selN t s n x = X at *
  have hq1 := fun w => eqlSea t s y X w
  have hq2 := fun w => eqlSea t s X y w
  have hg1 := fun a b xs ys w => guardSea a b xs ys w
  have hc : (X == y) = (y == X) := by simp [Bool.beq_comm]
  have S0 : (fun w' : World => w'.cell? ⟨w.heap.size, 0, none⟩ = some (.int .i64 t) ∧ w'.cell? ⟨w.heap.size, 1, none⟩ = some (.int .i64 s) ∧ w'.cell? ⟨w.heap.size, 2, none⟩ = some (.int .i64 y) ∧ w'.cell? ⟨w.heap.size + 1, 0, none⟩ = some (.int .i64 n) ∧ w'.cell? ⟨w.heap.size + 1, 1, none⟩ = some (.string x) ∧ Kp w w') ((w.alloc (.cells #[.int .i64 t, .int .i64 s, .int .i64 y] 29)).alloc (.cells #[.int .i64 n, .string x] 25)).drew := ⟨by simp [go_sem], by simp [go_sem], by simp [go_sem], by simp [go_sem], by simp [go_sem], (((Kp.refl w).alloc _).alloc _).drew⟩
  go_enter Tryz.func30, Tryz.ntmps30
  go_upto_region 1 with fail
  refine wp_region_held_drew (S := (fun w' => w'.cell? ⟨w.heap.size, 0, none⟩ = some (.int .i64 t) ∧ w'.cell? ⟨w.heap.size, 1, none⟩ = some (.int .i64 s) ∧ w'.cell? ⟨w.heap.size, 2, none⟩ = some (.int .i64 y) ∧ w'.cell? ⟨w.heap.size + 1, 0, none⟩ = some (.int .i64 n) ∧ w'.cell? ⟨w.heap.size + 1, 1, none⟩ = some (.string x) ∧ Kp w w')) (by kernel_rfl) ?_ (fun hHeld => ?_)
  · exact S0
  refine wpAnyH_take (i := 0) (oi := ⟨some 5, _, _, _, _, _⟩) (v := ?_) rfl (by kernel_rfl) (by kernel_rfl) (by kernel_rfl) (fun _ _ _ h => h) (Or.inl ⟨by rfl, ?_⟩) (by assumption) ?_
  rotate_left
  · intro w hSw; (try dsimp only at hSw); go_simp; (all_goals with_reducible rfl)
  simp only [Act.put, List.setIfInBounds_toArray, List.set_cons_zero, List.set_cons_succ]
  refine wpAnyH_take (i := 1) (oi := ⟨some 6, _, _, _, _, _⟩) (v := ?_) rfl (by kernel_rfl) (by kernel_rfl) (by kernel_rfl) (fun _ _ _ h => h) (Or.inl ⟨by rfl, ?_⟩) (by assumption) ?_
  rotate_left
  · intro w hSw; (try dsimp only at hSw); go_simp; (all_goals with_reducible rfl)
  simp only [Act.put, List.setIfInBounds_toArray, List.set_cons_zero, List.set_cons_succ]
  refine wpAnyH_take (i := 2) (oi := ⟨some 7, _, _, _, _, _⟩) (v := ?_) rfl (by kernel_rfl) (by kernel_rfl) (by kernel_rfl) (fun _ _ _ h => h) (Or.inl ⟨by rfl, ?_⟩) (by assumption) ?_
  rotate_left
  · intro w hSw; (try dsimp only at hSw); go_simp; (all_goals with_reducible rfl)
  simp only [Act.put, List.setIfInBounds_toArray, List.set_cons_zero, List.set_cons_succ]
  refine wpAnyH_take (i := 3) (oi := ⟨some 8, _, _, _, _, _⟩) (v := ?_) rfl (by kernel_rfl) (by kernel_rfl) (by kernel_rfl) (fun _ _ _ h => h) (Or.inl ⟨by rfl, ?_⟩) (by assumption) ?_
  rotate_left
  · intro w hSw; (try dsimp only at hSw); go_simp; (all_goals with_reducible rfl)
  simp only [Act.put, List.setIfInBounds_toArray, List.set_cons_zero, List.set_cons_succ]
  refine wpAnyH_take (i := 4) (oi := ⟨some 9, _, _, _, _, _⟩) (v := ?_) rfl (by kernel_rfl) (by kernel_rfl) (by kernel_rfl) (fun _ _ _ h => h) (Or.inl ⟨by rfl, ?_⟩) (by assumption) ?_
  rotate_left
  · intro w hSw; (try dsimp only at hSw); go_simp; (all_goals with_reducible rfl)
  simp only [Act.put, List.setIfInBounds_toArray, List.set_cons_zero, List.set_cons_succ]
  refine wpAnyH_take (i := 5) (oi := ⟨some 10, _, _, _, _, _⟩) (v := ?_) rfl (by kernel_rfl) (by kernel_rfl) (by kernel_rfl) (fun _ _ _ h => h) (Or.inl ⟨by rfl, ?_⟩) (by assumption) ?_
  rotate_left
  · intro w hSw; (try dsimp only at hSw); go_simp; (all_goals with_reducible rfl)
  simp only [Act.put, List.setIfInBounds_toArray, List.set_cons_zero, List.set_cons_succ]
  refine wpAnyH_ready (rs := [6]) (by kernel_rfl) (by simp) ?_
  refine AllReadyH.cons (o := ⟨some 11, _, _, _, _, _⟩) rfl (fun K hK => ?_) AllReadyH.nil
  go_simp
  refine (CS.out _ (by first | exact Lib.Utf8Tabs_below HT.out hHeld.2.2.2.2.2 | exact Utf8Tabs_below HT.out hHeld.2.2.2.2.2)).mono ?_; rintro e1 w1 ⟨rfl, k1⟩; have s1 := keep6k k1 hHeld
  go_wp2_with fail
  refine hK.out _ _ ?_ (fun hHeld => ?_)
  · (try dsimp only); (first | assumption | exact s1)
  clear hK K
  try simp only [Act.put, List.setIfInBounds_toArray, List.set_cons_zero, List.set_cons_succ]
  refine wpAnyH_take (i := 7) (oi := ⟨some 12, _, _, _, _, _⟩) (v := ?_) rfl (by kernel_rfl) (by kernel_rfl) (by kernel_rfl) (fun _ _ _ h => h) (Or.inl ⟨by rfl, ?_⟩) (by assumption) ?_
  rotate_left
  · intro w hSw; (try dsimp only at hSw); go_simp; (all_goals with_reducible rfl)
  simp only [Act.put, List.setIfInBounds_toArray, List.set_cons_zero, List.set_cons_succ]
  refine wpAnyH_take (i := 8) (oi := ⟨some 4, _, _, _, _, _⟩) (v := ?_) rfl (by kernel_rfl) (by kernel_rfl) (by kernel_rfl) (fun _ _ _ h => h) (Or.inl ⟨by rfl, ?_⟩) (by assumption) ?_
  rotate_left
  · intro w hSw; (try dsimp only at hSw); go_simp; (all_goals with_reducible rfl)
  simp only [Act.put, List.setIfInBounds_toArray, List.set_cons_zero, List.set_cons_succ]
  refine wpAnyH_done (by kernel_rfl) ?_ _
  go_wp2_with fail
  go_ret
  exact ⟨ret_bool (by first | rfl | exact hc), hHeld.2.2.2.2.2⟩

set_option maxRecDepth 100000 in
set_option maxHeartbeats 4000000 in
theorem eOpens_any (t s y n : Int) (x : ByteArray) (w : World) (hx : x.size ≤ 150)  :
    Calls Tryz.prog 39 #[slx t s y, opx n x] w fun e w' => e = .returned (.bool (opnsB ⟨t, s, y⟩ ⟨n, x⟩)) ∧ Kp w w' := by
  have CS := Lib.hid (fun w => eSeal_any t s n x w hx)
  have hD : opnsB ⟨t, s, y⟩ ⟨n, x⟩ = (y == selN t s n x) := rfl
  rw [hD]
  clear hD
  generalize selN t s n x = X at *
  have hq1 := fun w => eqlSea t s y X w
  have hq2 := fun w => eqlSea t s X y w
  have hg1 := fun a b xs ys w => guardSea a b xs ys w
  have hc : (X == y) = (y == X) := by simp [Bool.beq_comm]
  have S0 : (fun w' : World => w'.cell? ⟨w.heap.size, 0, none⟩ = some (.int .i64 t) ∧ w'.cell? ⟨w.heap.size, 1, none⟩ = some (.int .i64 s) ∧ w'.cell? ⟨w.heap.size, 2, none⟩ = some (.int .i64 y) ∧ w'.cell? ⟨w.heap.size + 1, 0, none⟩ = some (.int .i64 n) ∧ w'.cell? ⟨w.heap.size + 1, 1, none⟩ = some (.string x) ∧ Kp w w') ((w.alloc (.cells #[.int .i64 t, .int .i64 s, .int .i64 y] 29)).alloc (.cells #[.int .i64 n, .string x] 25)).drew := ⟨by simp [go_sem], by simp [go_sem], by simp [go_sem], by simp [go_sem], by simp [go_sem], (((Kp.refl w).alloc _).alloc _).drew⟩
  go_enter Tryz.func39, Tryz.ntmps39
  go_upto_region 1 with fail
  refine wp_region_held_drew (S := (fun w' => w'.cell? ⟨w.heap.size, 0, none⟩ = some (.int .i64 t) ∧ w'.cell? ⟨w.heap.size, 1, none⟩ = some (.int .i64 s) ∧ w'.cell? ⟨w.heap.size, 2, none⟩ = some (.int .i64 y) ∧ w'.cell? ⟨w.heap.size + 1, 0, none⟩ = some (.int .i64 n) ∧ w'.cell? ⟨w.heap.size + 1, 1, none⟩ = some (.string x) ∧ Kp w w')) (by kernel_rfl) ?_ (fun hHeld => ?_)
  · exact S0
  refine wpAnyH_take (i := 0) (oi := ⟨some 5, _, _, _, _, _⟩) (v := ?_) rfl (by kernel_rfl) (by kernel_rfl) (by kernel_rfl) (fun _ _ _ h => h) (Or.inl ⟨by rfl, ?_⟩) (by assumption) ?_
  rotate_left
  · intro w hSw; (try dsimp only at hSw); go_simp; (all_goals with_reducible rfl)
  simp only [Act.put, List.setIfInBounds_toArray, List.set_cons_zero, List.set_cons_succ]
  refine wpAnyH_take (i := 1) (oi := ⟨some 6, _, _, _, _, _⟩) (v := ?_) rfl (by kernel_rfl) (by kernel_rfl) (by kernel_rfl) (fun _ _ _ h => h) (Or.inl ⟨by rfl, ?_⟩) (by assumption) ?_
  rotate_left
  · intro w hSw; (try dsimp only at hSw); go_simp; (all_goals with_reducible rfl)
  simp only [Act.put, List.setIfInBounds_toArray, List.set_cons_zero, List.set_cons_succ]
  refine wpAnyH_take (i := 2) (oi := ⟨some 7, _, _, _, _, _⟩) (v := ?_) rfl (by kernel_rfl) (by kernel_rfl) (by kernel_rfl) (fun _ _ _ h => h) (Or.inl ⟨by rfl, ?_⟩) (by assumption) ?_
  rotate_left
  · intro w hSw; (try dsimp only at hSw); go_simp; (all_goals with_reducible rfl)
  simp only [Act.put, List.setIfInBounds_toArray, List.set_cons_zero, List.set_cons_succ]
  refine wpAnyH_take (i := 3) (oi := ⟨some 8, _, _, _, _, _⟩) (v := ?_) rfl (by kernel_rfl) (by kernel_rfl) (by kernel_rfl) (fun _ _ _ h => h) (Or.inl ⟨by rfl, ?_⟩) (by assumption) ?_
  rotate_left
  · intro w hSw; (try dsimp only at hSw); go_simp; (all_goals with_reducible rfl)
  simp only [Act.put, List.setIfInBounds_toArray, List.set_cons_zero, List.set_cons_succ]
  refine wpAnyH_take (i := 4) (oi := ⟨some 9, _, _, _, _, _⟩) (v := ?_) rfl (by kernel_rfl) (by kernel_rfl) (by kernel_rfl) (fun _ _ _ h => h) (Or.inl ⟨by rfl, ?_⟩) (by assumption) ?_
  rotate_left
  · intro w hSw; (try dsimp only at hSw); go_simp; (all_goals with_reducible rfl)
  simp only [Act.put, List.setIfInBounds_toArray, List.set_cons_zero, List.set_cons_succ]
  refine wpAnyH_take (i := 6) (oi := ⟨some 11, _, _, _, _, _⟩) (v := ?_) rfl (by kernel_rfl) (by kernel_rfl) (by kernel_rfl) (fun _ _ _ h => h) (Or.inl ⟨by rfl, ?_⟩) (by assumption) ?_
  rotate_left
  · intro w hSw; (try dsimp only at hSw); go_simp; (all_goals with_reducible rfl)
  simp only [Act.put, List.setIfInBounds_toArray, List.set_cons_zero, List.set_cons_succ]
  refine wpAnyH_ready (rs := [5]) (by kernel_rfl) (by simp) ?_
  refine AllReadyH.cons (o := ⟨some 10, _, _, _, _, _⟩) rfl (fun K hK => ?_) AllReadyH.nil
  go_simp
  refine (CS.out _).mono ?_; rintro e1 w1 ⟨rfl, k1⟩; have s1 := keep6k k1 hHeld
  go_wp2_with fail
  refine hK.out _ _ ?_ (fun hHeld => ?_)
  · (try dsimp only); (first | assumption | exact s1)
  clear hK K
  try simp only [Act.put, List.setIfInBounds_toArray, List.set_cons_zero, List.set_cons_succ]
  refine wpAnyH_take (i := 7) (oi := ⟨some 12, _, _, _, _, _⟩) (v := ?_) rfl (by kernel_rfl) (by kernel_rfl) (by kernel_rfl) (fun _ _ _ h => h) (Or.inl ⟨by rfl, ?_⟩) (by assumption) ?_
  rotate_left
  · intro w hSw; (try dsimp only at hSw); go_simp; (all_goals with_reducible rfl)
  simp only [Act.put, List.setIfInBounds_toArray, List.set_cons_zero, List.set_cons_succ]
  refine wpAnyH_take (i := 8) (oi := ⟨some 4, _, _, _, _, _⟩) (v := ?_) rfl (by kernel_rfl) (by kernel_rfl) (by kernel_rfl) (fun _ _ _ h => h) (Or.inl ⟨by rfl, ?_⟩) (by assumption) ?_
  rotate_left
  · intro w hSw; (try dsimp only at hSw); go_simp; (all_goals with_reducible rfl)
  simp only [Act.put, List.setIfInBounds_toArray, List.set_cons_zero, List.set_cons_succ]
  refine wpAnyH_done (by kernel_rfl) ?_ _
  go_wp2_with fail
  go_ret
  exact ⟨ret_bool (by first | rfl | exact hc), hHeld.2.2.2.2.2⟩


end Go.Proofs.YtbohefollbmhkaaGreatDoor
