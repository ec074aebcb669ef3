/-
  The direction from a hex to another: the program's function and the reference's return what a plain function on integers says, and change nothing that was there.
-/
import Derived.Test.YtejgfjffndjjnaaDoorDir
import Derived.Test.YtejgfjffndjjnaaDoorStep
namespace Go.Proofs.YtejgfjffndjjnaaDoor
open Go.RowKit

theorem Tab.twelve {w : World} (h : Tab w) :
    (w.cell? ⟨0, 0, none⟩ = some (.int .i64 1) ∧ w.cell? ⟨0, 1, none⟩ = some (.int .i64 0) ∧ w.cell? ⟨0, 2, none⟩ = some (.int .i64 1) ∧ w.cell? ⟨0, 3, none⟩ = some (.int .i64 (-1)) ∧
     w.cell? ⟨0, 4, none⟩ = some (.int .i64 0) ∧ w.cell? ⟨0, 5, none⟩ = some (.int .i64 (-1)) ∧ w.cell? ⟨0, 6, none⟩ = some (.int .i64 (-1)) ∧ w.cell? ⟨0, 7, none⟩ = some (.int .i64 0) ∧
     w.cell? ⟨0, 8, none⟩ = some (.int .i64 (-1)) ∧ w.cell? ⟨0, 9, none⟩ = some (.int .i64 1) ∧ w.cell? ⟨0, 10, none⟩ = some (.int .i64 0) ∧ w.cell? ⟨0, 11, none⟩ = some (.int .i64 1)) :=
  ⟨(h 0 (by omega)).1, (h 0 (by omega)).2, (h 1 (by omega)).1, (h 1 (by omega)).2, (h 2 (by omega)).1, (h 2 (by omega)).2, (h 3 (by omega)).1, (h 3 (by omega)).2, (h 4 (by omega)).1, (h 4 (by omega)).2, (h 5 (by omega)).1, (h 5 (by omega)).2⟩

theorem ix0 (w : World) : (Instr.index 48 (.agg #[.int .i64 1, .int .i64 0, .int .i64 1, .int .i64 (-1), .int .i64 0, .int .i64 (-1), .int .i64 (-1), .int .i64 0, .int .i64 (-1), .int .i64 1, .int .i64 0, .int .i64 1]) (.int .i64 0)).run Tryd.prog w = .ok (hx (1) (0)) w := by kernel_rfl
theorem ix1 (w : World) : (Instr.index 48 (.agg #[.int .i64 1, .int .i64 0, .int .i64 1, .int .i64 (-1), .int .i64 0, .int .i64 (-1), .int .i64 (-1), .int .i64 0, .int .i64 (-1), .int .i64 1, .int .i64 0, .int .i64 1]) (.int .i64 1)).run Tryd.prog w = .ok (hx (1) (-1)) w := by kernel_rfl
theorem ix2 (w : World) : (Instr.index 48 (.agg #[.int .i64 1, .int .i64 0, .int .i64 1, .int .i64 (-1), .int .i64 0, .int .i64 (-1), .int .i64 (-1), .int .i64 0, .int .i64 (-1), .int .i64 1, .int .i64 0, .int .i64 1]) (.int .i64 2)).run Tryd.prog w = .ok (hx (0) (-1)) w := by kernel_rfl
theorem ix3 (w : World) : (Instr.index 48 (.agg #[.int .i64 1, .int .i64 0, .int .i64 1, .int .i64 (-1), .int .i64 0, .int .i64 (-1), .int .i64 (-1), .int .i64 0, .int .i64 (-1), .int .i64 1, .int .i64 0, .int .i64 1]) (.int .i64 3)).run Tryd.prog w = .ok (hx (-1) (0)) w := by kernel_rfl
theorem ix4 (w : World) : (Instr.index 48 (.agg #[.int .i64 1, .int .i64 0, .int .i64 1, .int .i64 (-1), .int .i64 0, .int .i64 (-1), .int .i64 (-1), .int .i64 0, .int .i64 (-1), .int .i64 1, .int .i64 0, .int .i64 1]) (.int .i64 4)).run Tryd.prog w = .ok (hx (-1) (1)) w := by kernel_rfl
theorem ix5 (w : World) : (Instr.index 48 (.agg #[.int .i64 1, .int .i64 0, .int .i64 1, .int .i64 (-1), .int .i64 0, .int .i64 (-1), .int .i64 (-1), .int .i64 0, .int .i64 (-1), .int .i64 1, .int .i64 0, .int .i64 1]) (.int .i64 5)).run Tryd.prog w = .ok (hx (0) (1)) w := by kernel_rfl
theorem ix (k : Nat) (hk : k < 6) (w : World) : (Instr.index 48 (.agg #[.int .i64 1, .int .i64 0, .int .i64 1, .int .i64 (-1), .int .i64 0, .int .i64 (-1), .int .i64 (-1), .int .i64 0, .int .i64 (-1), .int .i64 1, .int .i64 0, .int .i64 1]) (.int .i64 (k : Int))).run Tryd.prog w = .ok (hx (dirQ k) (dirR k)) w := by
  match k, hk with
  | 0, _ => exact ix0 w
  | 1, _ => exact ix1 w
  | 2, _ => exact ix2 w
  | 3, _ => exact ix3 w
  | 4, _ => exact ix4 w
  | 5, _ => exact ix5 w

theorem directionTo_yes (aq ar bq br : Int) (w : World) (ht : Tab w) (ha : okH aq ar = true) (hb : okH bq br = true) :
    Calls Tryd.prog 6 #[hx aq ar, hx bq br] w fun e w' => e = .returned (.tuple #[.int .i64 (dirRes (bq - aq) (br - ar)).1, .bool (dirRes (bq - aq) (br - ar)).2]) ∧ Kp w w' := by
  have A1 := okH_true ha
  have B1 := okH_true hb
  have HT := Lib.hid ht
  clear ht
  go_enter Tryd.func6, Tryd.ntmps6
  go_wp2_with fail
  refine (isHex_any _ _ _).mono ?_
  rintro e wa ⟨rfl, ka⟩
  have a0 : wa.cell? ⟨w.heap.size, 0, none⟩ = some (.int .i64 aq) := ka.cell (by simp [go_sem])
  have a1 : wa.cell? ⟨w.heap.size, 1, none⟩ = some (.int .i64 ar) := ka.cell (by simp [go_sem])
  have b0 : wa.cell? ⟨w.heap.size + 1, 0, none⟩ = some (.int .i64 bq) := ka.cell (by simp [go_sem])
  have b1 : wa.cell? ⟨w.heap.size + 1, 1, none⟩ = some (.int .i64 br) := ka.cell (by simp [go_sem])
  have K1 : Kp w wa := (((Kp.refl _).alloc _).alloc _).trans ka
  clear ka
  go_wp2_with fail
  refine (isHex_any _ _ _).mono ?_
  rintro e wb ⟨rfl, kb⟩
  have c := kb.four ⟨a0, a1, b0, b1⟩
  go_wp2_with fail
  refine (offsetTo_any _ _ _ _ _ (by omega) (by omega) (by omega) (by omega) (by omega) (by omega) (by omega) (by omega)).mono ?_
  rintro e wc ⟨rfl, kc⟩
  have K2 : Kp w wc := (K1.trans kb).trans kc
  have t := (HT.out.keep K2).twelve
  clear kb kc c a0 a1 b0 b1 K1
  obtain ⟨x, hx0⟩ : ∃ x, x = bq - aq := ⟨_, rfl⟩
  obtain ⟨y, hy0⟩ : ∃ y, y = br - ar := ⟨_, rfl⟩
  rw [← hx0, ← hy0]
  have HX := Lib.hid hx0
  have HY := Lib.hid hy0
  clear hx0 hy0
  have g0 : 0 < wc.heap.size := cell_lt t.1
  have g1 : 0 ≠ wc.heap.size := by omega
  go_wp2_with fail
  clear t
  go_loopw [21] (fun i wr => ∃ k : Nat, k ≤ 6 ∧ i = .int .i64 k ∧ Hid (noDir x y k) ∧ wr.cell? ⟨wc.heap.size, 0, none⟩ = some (.int .i64 x) ∧ wr.cell? ⟨wc.heap.size, 1, none⟩ = some (.int .i64 y) ∧ Kp wc wr) (fun i _ => 6 - (intOf i).toNat)
  case atStart => exact ⟨0, by omega, rfl, fun j hj => absurd hj (by omega), by simp [go_sem], by simp [go_sem], (Kp.refl _).alloc _⟩
  case round =>
    obtain ⟨k, hk, rfl, hno, x0, y0, kr⟩ := hrel
    have l0 := cell_lt x0
    have n0 : wc.heap.size ≠ wr.heap.size := by omega
    by_cases hlt : k < 6
    · have hi := fun w => ix k hlt w
      by_cases hm : x = dirQ k ∧ y = dirR k
      · obtain ⟨rfl, rfl⟩ := hm
        go_wp2_with fail
        go_ret2
        rw [← HX.out, ← HY.out, dirRes_at hlt ⟨rfl, rfl⟩]
        exact ⟨rfl, (K2.trans kr).alloc _⟩
      · have hns := Lib.hid (noDir_succ hno.out hm)
        have hm' : ¬ (dirQ k = x ∧ dirR k = y) := fun h => hm ⟨h.1.symm, h.2.symm⟩
        go_wp2_with fail
        all_goals
          go_roundw
          case rel => exact ⟨k + 1, by omega, by go_num, hns, by simp [go_sem, *], by simp [go_sem, *], kr.alloc _⟩
          case measure => simp [intOf]; omega
    · obtain rfl : k = 6 := by omega
      go_wp2_with fail
      go_ret2
      rw [← HX.out, ← HY.out, dirRes_no hno.out]
      exact ⟨rfl, K2.trans kr⟩

def dres (aq ar bq br : Int) : Int × Bool := if (okH aq ar && okH bq br) = true then dirRes (bq - aq) (br - ar) else (0, false)

theorem directionTo_any (aq ar bq br : Int) (w : World) (ht : Tab w) :
    Calls Tryd.prog 6 #[hx aq ar, hx bq br] w fun e w' => e = .returned (.tuple #[.int .i64 (dres aq ar bq br).1, .bool (dres aq ar bq br).2]) ∧ Kp w w' := by
  cases ha : okH aq ar
  · have e : dres aq ar bq br = (0, false) := by simp [dres, ha]
    rw [e]
    go_enter Tryd.func6, Tryd.ntmps6
    go_wp2_with fail
    refine (isHex_any _ _ _).mono ?_
    rintro e w1 ⟨rfl, hk⟩
    go_wp2_with fail
    go_ret2
    exact ⟨rfl, (((Kp.refl _).alloc _).alloc _).trans hk⟩
  · cases hb : okH bq br
    · have e : dres aq ar bq br = (0, false) := by simp [dres, hb]
      rw [e]
      go_enter Tryd.func6, Tryd.ntmps6
      go_wp2_with fail
      refine (isHex_any _ _ _).mono ?_
      rintro e wa ⟨rfl, ka⟩
      have b0 : wa.cell? ⟨w.heap.size + 1, 0, none⟩ = some (.int .i64 bq) := ka.cell (by simp [go_sem])
      have b1 : wa.cell? ⟨w.heap.size + 1, 1, none⟩ = some (.int .i64 br) := ka.cell (by simp [go_sem])
      go_wp2_with fail
      refine (isHex_any _ _ _).mono ?_
      rintro e w1 ⟨rfl, hk⟩
      go_wp2_with fail
      go_ret2
      exact ⟨rfl, ((((Kp.refl _).alloc _).alloc _).trans ka).trans hk⟩
    · have e : dres aq ar bq br = dirRes (bq - aq) (br - ar) := by simp [dres, ha, hb]
      rw [e]
      exact directionTo_yes aq ar bq br w ht ha hb

theorem specDirectionTo_any (aq ar bq br : Int) (w : World) :
    Calls Tryd.prog 7 #[hx aq ar, hx bq br] w fun e w' => e = .returned (.tuple #[.int .i64 (dres aq ar bq br).1, .bool (dres aq ar bq br).2]) ∧ Kp w w' := by
  cases ha : okH aq ar
  · have e : dres aq ar bq br = (0, false) := by simp [dres, ha]
    rw [e]
    go_enter Tryd.func7, Tryd.ntmps7
    go_wp2_with fail
    refine (hGood_any _ _ _).mono ?_
    rintro e w1 ⟨rfl, hk⟩
    go_wp2_with fail
    go_ret2
    exact ⟨rfl, (((Kp.refl _).alloc _).alloc _).trans hk⟩
  · cases hb : okH bq br
    · have e : dres aq ar bq br = (0, false) := by simp [dres, hb]
      rw [e]
      go_enter Tryd.func7, Tryd.ntmps7
      go_wp2_with fail
      refine (hGood_any _ _ _).mono ?_
      rintro e wa ⟨rfl, ka⟩
      have b0 : wa.cell? ⟨w.heap.size + 1, 0, none⟩ = some (.int .i64 bq) := ka.cell (by simp [go_sem])
      have b1 : wa.cell? ⟨w.heap.size + 1, 1, none⟩ = some (.int .i64 br) := ka.cell (by simp [go_sem])
      go_wp2_with fail
      refine (hGood_any _ _ _).mono ?_
      rintro e w1 ⟨rfl, hk⟩
      go_wp2_with fail
      go_ret2
      exact ⟨rfl, ((((Kp.refl _).alloc _).alloc _).trans ka).trans hk⟩
    · have e : dres aq ar bq br = dirRes (bq - aq) (br - ar) := by simp [dres, ha, hb]
      rw [e]
      have A1 := okH_true ha
      have B1 := okH_true hb
      clear e
      go_enter Tryd.func7, Tryd.ntmps7
      go_wp2_with fail
      refine (hGood_any _ _ _).mono ?_
      rintro e wa ⟨rfl, ka⟩
      have a0 : wa.cell? ⟨w.heap.size, 0, none⟩ = some (.int .i64 aq) := ka.cell (by simp [go_sem])
      have a1 : wa.cell? ⟨w.heap.size, 1, none⟩ = some (.int .i64 ar) := ka.cell (by simp [go_sem])
      have b0 : wa.cell? ⟨w.heap.size + 1, 0, none⟩ = some (.int .i64 bq) := ka.cell (by simp [go_sem])
      have b1 : wa.cell? ⟨w.heap.size + 1, 1, none⟩ = some (.int .i64 br) := ka.cell (by simp [go_sem])
      have K1 : Kp w wa := (((Kp.refl _).alloc _).alloc _).trans ka
      clear ka
      go_wp2_with fail
      refine (hGood_any _ _ _).mono ?_
      rintro e wb ⟨rfl, kb⟩
      have c := Lib.hid (kb.four ⟨a0, a1, b0, b1⟩)
      have K2 : Kp w wb := K1.trans kb
      clear kb a0 a1 b0 b1 K1
      go_wp2_with fail
      go_loopw [6] (fun i wr => ∃ k : Nat, k ≤ 6 ∧ i = .int .i64 k ∧ Hid (noDir (bq - aq) (br - ar) k) ∧ Kp wb wr) (fun i _ => 6 - (intOf i).toNat)
      case atStart => exact ⟨0, by omega, rfl, fun j hj => absurd hj (by omega), Kp.refl _⟩
      case round =>
        obtain ⟨k, hk, rfl, hno, kr⟩ := hrel
        have s0 := kr.four c.out
        by_cases hlt : k < 6
        · have hk5 : (k : Int) ≤ 5 := by omega
          have hk0 : (0 : Int) ≤ k := by omega
          have hlt' : (k : Int) < 6 := by omega
          have hst := Lib.hid (fun w => hStep_any aq ar k w hk0 hk5 (by omega) (by omega) (by omega) (by omega))
          have bd := dir_bd k
          by_cases hm : bq - aq = dirQ k ∧ br - ar = dirR k
          · have e1 : aq + dirQ k = bq := by omega
            have e2 : ar + dirR k = br := by omega
            have HR := Lib.hid (dirRes_at hlt hm)
            clear hm
            go_wp2_with fail
            go_region_held3 (fun w' => w'.cell? ⟨w.heap.size, 0, none⟩ = some (.int .i64 aq) ∧ w'.cell? ⟨w.heap.size, 1, none⟩ = some (.int .i64 ar) ∧ w'.cell? ⟨w.heap.size + 1, 0, none⟩ = some (.int .i64 bq) ∧ w'.cell? ⟨w.heap.size + 1, 1, none⟩ = some (.int .i64 br)) (first | assumption | go_keep)
              (first | (go_at_call 18; refine (hst.out _).mono ?_; rintro e w1 ⟨rfl, k1⟩; have s1 := k1.four (by assumption)))
            all_goals
              go_wp2_with fail
              go_ret2
              rw [HR.out]
              exact ⟨rfl, (K2.trans kr).drew.trans k1⟩
          · have hns := Lib.hid (noDir_succ hno.out hm)
            have hm' : ¬ (aq + dirQ k = bq ∧ ar + dirR k = br) := fun h => hm ⟨by omega, by omega⟩
            by_cases e1 : aq + dirQ k = bq
            · have e2 : ¬ ar + dirR k = br := fun h => hm' ⟨e1, h⟩
              have e3 : (ar + dirR k == br) = false := by simpa using e2
              clear hm hm'
              go_wp2_with fail
              go_region_held3 (fun w' => w'.cell? ⟨w.heap.size, 0, none⟩ = some (.int .i64 aq) ∧ w'.cell? ⟨w.heap.size, 1, none⟩ = some (.int .i64 ar) ∧ w'.cell? ⟨w.heap.size + 1, 0, none⟩ = some (.int .i64 bq) ∧ w'.cell? ⟨w.heap.size + 1, 1, none⟩ = some (.int .i64 br)) (first | assumption | go_keep)
                (first | (go_at_call 18; refine (hst.out _).mono ?_; rintro e w1 ⟨rfl, k1⟩; have s1 := k1.four (by assumption)))
              all_goals
                go_wp2_with fail
                all_goals
                  go_roundw
                  case rel => exact ⟨k + 1, by omega, by go_num, hns, kr.drew.trans k1⟩
                  case measure => simp [intOf]; omega
            · have e3 : (aq + dirQ k == bq) = false := by simpa using e1
              clear hm hm'
              go_wp2_with fail
              go_region_held3 (fun w' => w'.cell? ⟨w.heap.size, 0, none⟩ = some (.int .i64 aq) ∧ w'.cell? ⟨w.heap.size, 1, none⟩ = some (.int .i64 ar) ∧ w'.cell? ⟨w.heap.size + 1, 0, none⟩ = some (.int .i64 bq) ∧ w'.cell? ⟨w.heap.size + 1, 1, none⟩ = some (.int .i64 br)) (first | assumption | go_keep)
                (first | (go_at_call 18; refine (hst.out _).mono ?_; rintro e w1 ⟨rfl, k1⟩; have s1 := k1.four (by assumption)))
              all_goals
                go_wp2_with fail
                all_goals
                  go_roundw
                  case rel => exact ⟨k + 1, by omega, by go_num, hns, kr.drew.trans k1⟩
                  case measure => simp [intOf]; omega
        · obtain rfl : k = 6 := by omega
          go_wp2_with fail
          go_ret2
          rw [dirRes_no hno.out]
          exact ⟨rfl, K2.trans kr⟩
end Go.Proofs.YtejgfjffndjjnaaDoor
