/-
  Texts of this seat in one module: SlN.
-/
import Derived.Laws.StructEq
import Derived.Deep.RegionHeld
import Derived.Deep.CutRange
import Derived.Test.YtbohefollbmhkaaGreatDoorQg
import Derived.Test.YtbohefollbmhkaaGreatDoorQh

/-
  Plain openings; valid openings and the seal of an opening by the program. Nothing that was there is changed. The named variables hold what the program's text lays.
-/
namespace Go.Proofs.YtbohefollbmhkaaGreatDoor
open Go.RowKit

def opnB (o : Opn) : Bool := seedB o.n && decide (o.s.size ≤ 150)
def selN (t s n : Int) (x : ByteArray) : Int := hashN (mixL ([11, t, s, n] ++ byL x x.size))
def opnsB (e : Sea) (o : Opn) : Bool := e.x == selN e.t e.s o.n o.s
theorem opnB_alt (n : Int) (s : ByteArray) : opnB ⟨n, s⟩ = (spB 0 4611686016279904236 n && spB 0 150 (s.size : Int)) := by
  have e : spB 0 150 (s.size : Int) = decide (s.size ≤ 150) := by simp [spB]; omega
  rw [e]
  rfl
theorem opnB_size {n : Int} {s : ByteArray} (h : opnB ⟨n, s⟩ = true) : s.size ≤ 150 := by
  simp only [opnB, Bool.and_eq_true, decide_eq_true_eq] at h
  exact h.2
theorem eqlSea (t s x y : Int) (w : World) : (binOp .eql 29 (slx t s x) (slx t s y)).run Tryz.prog w = .ok (.bool (x == y)) w := by
  have h2 : Tryz.prog.stoodInHeld 29 = false := by kernel_rfl
  simp [run_eql_struct, run_equalIn_agg, h2, Program.fieldsOf, Tryz.underlying29, Op.eqFields, run_equalIn_int, Tryz.underlying3, part, go_sem]
  by_cases e : x = y <;> simp [e]
theorem guardSea (x y : Operand) (xs ys : Array Value) (w : World) : (eqGuard .eql 29 x y (.agg xs) (.agg ys)).run Tryz.prog w = .ok () w :=
  run_eqGuard_agg w .eql 29 x y xs ys (by kernel_rfl)

set_option maxRecDepth 100000 in
set_option maxHeartbeats 4000000 in
theorem isValidP_any (n : Int) (x : ByteArray) (w : World) (hg2 : SpanAt w 2 0 4611686016279904236) (hg3 : SpanAt w 3 0 150) :
    Calls Tryz.prog 24 #[opx n x] w fun e w' => e = .returned (.bool (opnB ⟨n, x⟩)) ∧ Kp w w' := by
  rw [opnB_alt]
  obtain ⟨J, hJ⟩ : ∃ J, J = (spB 0 4611686016279904236 n && spB 0 150 (x.size : Int)) := ⟨_, rfl⟩
  rw [← hJ]
  have C0 := Lib.hid (fun w => has_any 0 4611686016279904236 n w)
  have C1 := Lib.hid (fun w => has_any 0 150 (x.size : Int) w)
  cases h0 : spB 0 4611686016279904236 n
  · rw [h0] at C0
    have hO : J = false := by rw [hJ, h0]; rfl
    rw [hO]
    have K0 : Kp w (w.alloc (.cells #[.int .i64 n, .string x] 25)) := (Kp.refl w).alloc _
    have P1 : (w.alloc (.cells #[.int .i64 n, .string x] 25)).cell? ⟨w.heap.size, 1, none⟩ = some (.string x) := by simp [go_sem]
    go_enter Tryz.func24, Tryz.ntmps24
    obtain ⟨b0, c0⟩ := K0.two hg2
    go_wp2_with fail
    refine (C0.out _).mono ?_
    rintro e1 w1 ⟨rfl, k1⟩
    have K1 := K0.trans k1
    go_wp2_with fail
    go_ret
    exact ⟨rfl, K1⟩
  · rw [h0] at C0
    cases h1 : spB 0 150 (x.size : Int)
    · rw [h1] at C1
      have hO : J = false := by rw [hJ, h0, h1]; rfl
      rw [hO]
      have K0 : Kp w (w.alloc (.cells #[.int .i64 n, .string x] 25)) := (Kp.refl w).alloc _
      have P1 : (w.alloc (.cells #[.int .i64 n, .string x] 25)).cell? ⟨w.heap.size, 1, none⟩ = some (.string x) := by simp [go_sem]
      go_enter Tryz.func24, Tryz.ntmps24
      obtain ⟨b0, c0⟩ := K0.two hg2
      go_wp2_with fail
      refine (C0.out _).mono ?_
      rintro e1 w1 ⟨rfl, k1⟩
      have K1 := K0.trans k1
      obtain ⟨b1, c1⟩ := K1.two hg3
      have p1 := k1.cell P1
      go_wp2_with fail
      refine (C1.out _).mono ?_
      rintro e2 w2 ⟨rfl, k2⟩
      have K2 := K1.trans k2
      go_wp2_with fail
      go_ret
      exact ⟨rfl, K2⟩
    · have hO : J = true := by rw [hJ, h0, h1]; rfl
      rw [hO]
      clear hO
      rw [h1] at C1
      have K0 : Kp w (w.alloc (.cells #[.int .i64 n, .string x] 25)) := (Kp.refl w).alloc _
      have P1 : (w.alloc (.cells #[.int .i64 n, .string x] 25)).cell? ⟨w.heap.size, 1, none⟩ = some (.string x) := by simp [go_sem]
      go_enter Tryz.func24, Tryz.ntmps24
      obtain ⟨b0, c0⟩ := K0.two hg2
      go_wp2_with fail
      refine (C0.out _).mono ?_
      rintro e1 w1 ⟨rfl, k1⟩
      have K1 := K0.trans k1
      obtain ⟨b1, c1⟩ := K1.two hg3
      have p1 := k1.cell P1
      go_wp2_with fail
      refine (C1.out _).mono ?_
      rintro e2 w2 ⟨rfl, k2⟩
      have K2 := K1.trans k2
      go_wp2_with fail
      go_ret
      exact ⟨rfl, K2⟩

set_option maxRecDepth 100000 in
set_option maxHeartbeats 4000000 in
theorem sealOfP_any (t s n : Int) (x : ByteArray) (w : World) (hx : x.size ≤ 150) (hT : Lib.Utf8Tabs 6 7 w) :
    Calls Tryz.prog 25 #[.int .i64 t, .int .i64 s, opx n x] w fun e w' => e = .returned (slx t s (selN t s n x)) ∧ Kp w w' := by
  have HT := Lib.hid hT
  clear hT
  have hD : selN t s n x = hashN (mixL ([11, t, s, n] ++ byL x x.size)) := rfl
  rw [hD]
  clear hD
  have HL := Lib.hid (byL_len x x.size)
  have CB := Lib.hid (fun w hT => bytesOf_any x w (by omega) hT)
  generalize byL x x.size = L at *
  obtain ⟨M, hM⟩ : ∃ M, M = [11, t, s, n] ++ L := ⟨_, rfl⟩
  have hml : M.length ≤ 1000 := by rw [hM]; have := HL.out; simp; omega
  rw [← hM]
  have HM := Lib.hid hM
  clear hM
  have CM := Lib.hid (fun v w h => mixOf_any v M w h (by omega))
  have hbd := mixL_bd M
  have hq : hashN (mixL M) = hashN ((mixL M).1, (mixL M).2) := rfl
  rw [hq]
  clear hq
  have CN := Lib.hid (fun w => number_any (mixL M).1 (mixL M).2 w hbd.1 hbd.2.1 hbd.2.2.1 (by omega))
  generalize hashN ((mixL M).1, (mixL M).2) = X at *
  generalize (mixL M).1 = a at *
  generalize (mixL M).2 = b at *
  clear hbd
  have K0 : Kp w ((w.alloc (.cells #[.int .i64 n, .string x] 25)).alloc (.cells #[.int .i64 0, .int .i64 0, .int .i64 0] 29)) := ((Kp.refl w).alloc _).alloc _
  have S0 : ((w.alloc (.cells #[.int .i64 n, .string x] 25)).alloc (.cells #[.int .i64 0, .int .i64 0, .int .i64 0] 29)).cell? ⟨w.heap.size, 0, none⟩ = some (.int .i64 n) ∧ ((w.alloc (.cells #[.int .i64 n, .string x] 25)).alloc (.cells #[.int .i64 0, .int .i64 0, .int .i64 0] 29)).cell? ⟨w.heap.size, 1, none⟩ = some (.string x) := ⟨by simp [go_sem], by simp [go_sem]⟩
  have T0 : Bx3 ((w.alloc (.cells #[.int .i64 n, .string x] 25)).alloc (.cells #[.int .i64 0, .int .i64 0, .int .i64 0] 29)) (w.heap.size + 1) 0 0 0 := by
    have := Bx3.new (w.alloc (.cells #[.int .i64 n, .string x] 25)) 0 0 0 29
    simpa using this
  have z0 : w.heap.size + 2 ≤ ((w.alloc (.cells #[.int .i64 n, .string x] 25)).alloc (.cells #[.int .i64 0, .int .i64 0, .int .i64 0] 29)).heap.size := by simp
  go_enter Tryz.func25, Tryz.ntmps25
  go_upto_region 1 with fail
  generalize ((w.alloc (.cells #[.int .i64 n, .string x] 25)).alloc (.cells #[.int .i64 0, .int .i64 0, .int .i64 0] 29)) = W0 at *
  go_cut [7] from 8 to 16 (fun s7 wx => Hid (OwnI wx (w.heap.size + 2) s7 M) ∧ Bx3 wx (w.heap.size + 1) 0 0 0 ∧ Kp w wx)
  case first =>
    refine wp_region_held_drew (S := (fun w' => w'.cell? ⟨w.heap.size, 0, none⟩ = some (.int .i64 n) ∧ w'.cell? ⟨w.heap.size, 1, none⟩ = some (.string x))) (by kernel_rfl) ?_ (fun hHeld => ?_)
    · exact S0
    refine wpAnyH_take (i := 0) (oi := ⟨some 8, _, _, _, _, _⟩) (v := ?_) rfl (by kernel_rfl) (by kernel_rfl) (by kernel_rfl) (fun _ _ _ h => h) (Or.inl ⟨by rfl, ?_⟩) (by assumption) ?_
    rotate_left
    · intro w hSw; (try dsimp only at hSw); go_simp; (all_goals with_reducible rfl)
    simp only [Act.put, List.setIfInBounds_toArray, List.set_cons_zero, List.set_cons_succ]
    refine wpAnyH_take (i := 1) (oi := ⟨some 9, _, _, _, _, _⟩) (v := ?_) rfl (by kernel_rfl) (by kernel_rfl) (by kernel_rfl) (fun _ _ _ h => h) (Or.inl ⟨by rfl, ?_⟩) (by assumption) ?_
    rotate_left
    · intro w hSw; (try dsimp only at hSw); go_simp; (all_goals with_reducible rfl)
    simp only [Act.put, List.setIfInBounds_toArray, List.set_cons_zero, List.set_cons_succ]
    refine wpAnyH_take (i := 2) (oi := ⟨some 10, _, _, _, _, _⟩) (v := ?_) rfl (by kernel_rfl) (by kernel_rfl) (by kernel_rfl) (fun _ _ _ h => h) (Or.inl ⟨by rfl, ?_⟩) (by assumption) ?_
    rotate_left
    · intro w hSw; (try dsimp only at hSw); go_simp; (all_goals with_reducible rfl)
    simp only [Act.put, List.setIfInBounds_toArray, List.set_cons_zero, List.set_cons_succ]
    refine wpAnyH_take (i := 3) (oi := ⟨some 11, _, _, _, _, _⟩) (v := ?_) rfl (by kernel_rfl) (by kernel_rfl) (by kernel_rfl) (fun _ _ _ h => h) (Or.inl ⟨by rfl, ?_⟩) (by assumption) ?_
    rotate_left
    · intro w hSw; (try dsimp only at hSw); go_simp; (all_goals with_reducible rfl)
    simp only [Act.put, List.setIfInBounds_toArray, List.set_cons_zero, List.set_cons_succ]
    refine wpAnyH_take (i := 5) (oi := ⟨some 13, _, _, _, _, _⟩) (v := ?_) rfl (by kernel_rfl) (by kernel_rfl) (by kernel_rfl) (fun _ _ _ h => h) (Or.inl ⟨by rfl, ?_⟩) (by assumption) ?_
    rotate_left
    · intro w hSw; (try dsimp only at hSw); go_simp; (all_goals with_reducible rfl)
    simp only [Act.put, List.setIfInBounds_toArray, List.set_cons_zero, List.set_cons_succ]
    refine wpAnyH_take (i := 6) (oi := ⟨some 14, _, _, _, _, _⟩) (v := ?_) rfl (by kernel_rfl) (by kernel_rfl) (by kernel_rfl) (fun _ _ _ h => h) (Or.inl ⟨by rfl, ?_⟩) (by assumption) ?_
    rotate_left
    · intro w hSw; (try dsimp only at hSw); go_simp; (all_goals with_reducible rfl)
    simp only [Act.put, List.setIfInBounds_toArray, List.set_cons_zero, List.set_cons_succ]
    have KD := K0.drew
    have TD := T0.drew
    have SD : W0.drew.cell? ⟨w.heap.size, 0, none⟩ = some (.int .i64 n) ∧ W0.drew.cell? ⟨w.heap.size, 1, none⟩ = some (.string x) := hHeld
    have zD : w.heap.size + 2 ≤ W0.drew.heap.size := z0
    clear hHeld S0 K0 T0 z0
    generalize W0.drew = WD at *
    have hHeld := SD
    refine wpAnyH_ready (rs := [4, 7]) (by kernel_rfl) (by simp) ?_
    refine (AllReadyH.cons (o := ⟨some 12, _, _, _, _, _⟩) rfl (fun K hK => ?_) (AllReadyH.cons (o := ⟨some 15, _, _, _, _, _⟩) rfl (fun K hK => ?_) AllReadyH.nil))
    · go_simp
      go_wp2_with fail
      have OX := Lib.hid (own_four WD WD.heap.size 11 t s n (Nat.le_refl _))
      have K1 := KD.alloc (.cells #[.int .i64 11, .int .i64 t, .int .i64 s, .int .i64 n] 3)
      have D1 := (Kp.refl WD).alloc (.cells #[.int .i64 11, .int .i64 t, .int .i64 s, .int .i64 n] 3)
      have S1 : (WD.alloc (.cells #[.int .i64 11, .int .i64 t, .int .i64 s, .int .i64 n] 3)).cell? ⟨w.heap.size, 0, none⟩ = some (.int .i64 n) ∧ (WD.alloc (.cells #[.int .i64 11, .int .i64 t, .int .i64 s, .int .i64 n] 3)).cell? ⟨w.heap.size, 1, none⟩ = some (.string x) := ⟨D1.cell hHeld.1, D1.cell hHeld.2⟩
      generalize WD.alloc (.cells #[.int .i64 11, .int .i64 t, .int .i64 s, .int .i64 n] 3) = W1 at *
      refine hK.out _ _ ?_ (fun hHeld => ?_)
      · (try dsimp only); (exact S1)
      clear hK K
      try simp only [Act.put, List.setIfInBounds_toArray, List.set_cons_zero, List.set_cons_succ]
      refine wpAnyH_ready (rs := [7]) (by kernel_rfl) (by simp) ?_
      refine (AllReadyH.cons (o := ⟨some 15, _, _, _, _, _⟩) rfl (fun K hK => ?_) AllReadyH.nil)
      go_simp
      refine (CB.out _ (by first | exact Lib.Utf8Tabs_below HT.out K1 | exact Utf8Tabs_below HT.out K1)).mono ?_
      rintro e2 w2 ⟨v2, rfl, o2, k2⟩
      have OX2 := Lib.hid (OX.out.keep k2)
      have RX := Lib.hid o2.rd
      have KX := K1.trans k2
      have DX := D1.trans k2
      have S2 : w2.cell? ⟨w.heap.size, 0, none⟩ = some (.int .i64 n) ∧ w2.cell? ⟨w.heap.size, 1, none⟩ = some (.string x) := ⟨k2.cell S1.1, k2.cell S1.2⟩
      clear o2 k2 OX K1 D1 S1
      go_wp2_with fail
      refine hK.out _ _ ?_ (fun hHeld => ?_)
      · (try dsimp only); (exact S2)
      clear hK K
      try simp only [Act.put, List.setIfInBounds_toArray, List.set_cons_zero, List.set_cons_succ]
      refine wpAnyH_ready (rs := [8]) (by kernel_rfl) (by simp) ?_
      refine (AllReadyH.cons (o := ⟨some 16, _, _, _, _, _⟩) rfl (fun K hK => ?_) AllReadyH.nil)
      refine step_append_ints (.tmp 12) (.tmp 15) rfl WD.heap.size _ _ [11, t, s, n] L rfl rfl OX2.out RX.out (by have := HL.out; simp; omega) DX.size (fun v5 w5 own5 grow5 => ?_)
      have O5 : Hid (OwnI w5 WD.heap.size v5 M) := Lib.hid (by rw [HM.out]; exact own5)
      have K5 := KX.appended OX2.out grow5 (Nat.le_trans (Nat.le_add_right _ 2) zD)
      have D5 := DX.appended OX2.out grow5 (Nat.le_refl _)
      clear own5 grow5
      have S5 : w5.cell? ⟨w.heap.size, 0, none⟩ = some (.int .i64 n) ∧ w5.cell? ⟨w.heap.size, 1, none⟩ = some (.string x) := ⟨D5.cell SD.1, D5.cell SD.2⟩
      refine hK.out _ _ ?_ (fun hHeld => ?_)
      · (try dsimp only); (exact S5)
      clear hK K
      try simp only [Act.put, List.setIfInBounds_toArray, List.set_cons_zero, List.set_cons_succ]
      refine wpAnyH_take (i := 9) (oi := ⟨some 7, _, _, _, _, _⟩) (v := ?_) rfl (by kernel_rfl) (by kernel_rfl) (by kernel_rfl) (fun _ _ _ h => h) (Or.inl ⟨by rfl, ?_⟩) (by assumption) ?_
      rotate_left
      · intro w hSw; (try dsimp only at hSw); go_simp; (all_goals with_reducible rfl)
      simp only [Act.put, List.setIfInBounds_toArray, List.set_cons_zero, List.set_cons_succ]
      refine wpAnyH_done (by kernel_rfl) ?_ _
      go_wp2_with fail
      go_meet
      exact ⟨Lib.hid (O5.out.base zD), TD.keep D5, K5⟩
    · go_simp
      refine (CB.out _ (by first | exact Lib.Utf8Tabs_below HT.out KD | exact Utf8Tabs_below HT.out KD)).mono ?_
      rintro e2 w1 ⟨v2, rfl, o2, k2⟩
      have S1 : w1.cell? ⟨w.heap.size, 0, none⟩ = some (.int .i64 n) ∧ w1.cell? ⟨w.heap.size, 1, none⟩ = some (.string x) := ⟨k2.cell hHeld.1, k2.cell hHeld.2⟩
      go_wp2_with fail
      refine hK.out _ _ ?_ (fun hHeld => ?_)
      · (try dsimp only); (exact S1)
      clear hK K
      try simp only [Act.put, List.setIfInBounds_toArray, List.set_cons_zero, List.set_cons_succ]
      refine wpAnyH_ready (rs := [4]) (by kernel_rfl) (by simp) ?_
      refine (AllReadyH.cons (o := ⟨some 12, _, _, _, _, _⟩) rfl (fun K hK => ?_) AllReadyH.nil)
      go_simp
      go_wp2_with fail
      have OX2 := Lib.hid (own_four w1 WD.heap.size 11 t s n k2.size)
      have RX := Lib.hid (o2.rd.keep ((Kp.refl w1).alloc (.cells #[.int .i64 11, .int .i64 t, .int .i64 s, .int .i64 n] 3)))
      have KX := (KD.trans k2).alloc (.cells #[.int .i64 11, .int .i64 t, .int .i64 s, .int .i64 n] 3)
      have DX := k2.alloc (.cells #[.int .i64 11, .int .i64 t, .int .i64 s, .int .i64 n] 3)
      have S2 : (w1.alloc (.cells #[.int .i64 11, .int .i64 t, .int .i64 s, .int .i64 n] 3)).cell? ⟨w.heap.size, 0, none⟩ = some (.int .i64 n) ∧ (w1.alloc (.cells #[.int .i64 11, .int .i64 t, .int .i64 s, .int .i64 n] 3)).cell? ⟨w.heap.size, 1, none⟩ = some (.string x) := ⟨((Kp.refl w1).alloc (.cells #[.int .i64 11, .int .i64 t, .int .i64 s, .int .i64 n] 3)).cell S1.1, ((Kp.refl w1).alloc (.cells #[.int .i64 11, .int .i64 t, .int .i64 s, .int .i64 n] 3)).cell S1.2⟩
      generalize w1.alloc (.cells #[.int .i64 11, .int .i64 t, .int .i64 s, .int .i64 n] 3) = w2 at *
      refine hK.out _ _ ?_ (fun hHeld => ?_)
      · (try dsimp only); (exact S2)
      clear hK K
      try simp only [Act.put, List.setIfInBounds_toArray, List.set_cons_zero, List.set_cons_succ]
      refine wpAnyH_ready (rs := [8]) (by kernel_rfl) (by simp) ?_
      refine (AllReadyH.cons (o := ⟨some 16, _, _, _, _, _⟩) rfl (fun K hK => ?_) AllReadyH.nil)
      refine step_append_ints (.tmp 12) (.tmp 15) rfl WD.heap.size _ _ [11, t, s, n] L rfl rfl OX2.out RX.out (by have := HL.out; simp; omega) DX.size (fun v5 w5 own5 grow5 => ?_)
      have O5 : Hid (OwnI w5 WD.heap.size v5 M) := Lib.hid (by rw [HM.out]; exact own5)
      have K5 := KX.appended OX2.out grow5 (Nat.le_trans (Nat.le_add_right _ 2) zD)
      have D5 := DX.appended OX2.out grow5 (Nat.le_refl _)
      clear own5 grow5
      have S5 : w5.cell? ⟨w.heap.size, 0, none⟩ = some (.int .i64 n) ∧ w5.cell? ⟨w.heap.size, 1, none⟩ = some (.string x) := ⟨D5.cell SD.1, D5.cell SD.2⟩
      refine hK.out _ _ ?_ (fun hHeld => ?_)
      · (try dsimp only); (exact S5)
      clear hK K
      try simp only [Act.put, List.setIfInBounds_toArray, List.set_cons_zero, List.set_cons_succ]
      refine wpAnyH_take (i := 9) (oi := ⟨some 7, _, _, _, _, _⟩) (v := ?_) rfl (by kernel_rfl) (by kernel_rfl) (by kernel_rfl) (fun _ _ _ h => h) (Or.inl ⟨by rfl, ?_⟩) (by assumption) ?_
      rotate_left
      · intro w hSw; (try dsimp only at hSw); go_simp; (all_goals with_reducible rfl)
      simp only [Act.put, List.setIfInBounds_toArray, List.set_cons_zero, List.set_cons_succ]
      refine wpAnyH_done (by kernel_rfl) ?_ _
      go_wp2_with fail
      go_meet
      exact ⟨Lib.hid (O5.out.base zD), TD.keep D5, K5⟩
  case rest =>
    rename_i s7 wx hcut
    obtain ⟨O5, T5, K5⟩ := hcut
    obtain ⟨A, c, h7⟩ := O5.out.slice
    subst h7
    have R5 := Lib.hid O5.out.rd
    go_wp2_with fail
    refine (CM.out _ _ R5.out).mono ?_
    rintro e6 w6 ⟨rfl, k6⟩
    have T6 := T5.keep k6
    have K6 := K5.trans k6
    clear T5 K5 k6 O5 R5
    go_wp2_with fail
    refine (CN.out _).mono ?_
    rintro e7 w7 ⟨rfl, k7⟩
    obtain ⟨⟨c0, c1, c2⟩, f0, f1, f2⟩ := T6.keep k7
    have K7 := K6.trans k7
    clear T6 K6 k7
    go_wp2_with fail
    exact bodyPost_ret (v := slx t s X) (by simp [results, Tryz.results25, go_sem, *]) rfl ⟨rfl, ((K7.setCell (by simp) _).setCell (by simp) _).setCell (by simp) _⟩


end Go.Proofs.YtbohefollbmhkaaGreatDoor
