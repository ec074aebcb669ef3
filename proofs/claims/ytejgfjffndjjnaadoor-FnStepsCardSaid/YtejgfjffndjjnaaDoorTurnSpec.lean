/-
  The reference's functions that turn and mirror hexes return what the same plain functions on integers say, and change nothing that was there.
-/
import Derived.Test.YtejgfjffndjjnaaDoorTurn
namespace Go.Proofs.YtejgfjffndjjnaaDoor
open Go.RowKit

theorem specMirrorHex_any (q r cq cr : Int) (w : World) :
    Calls Tryd.prog 13 #[hx q r, hx cq cr] w fun e w' => e = .returned (hb3 (mirOk q r cq cr) (cq + (r - cr)) (cr + (q - cq))) ∧ Kp w w' := by
  have hl : w.heap.size < w.heap.size + 1 + 1 + 1 ∧ w.heap.size + 1 < w.heap.size + 1 + 1 + 1 := by omega
  cases ha : okH q r
  · have e : mirOk q r cq cr = false := by simp [mirOk, ha]
    rw [e]
    go_enter Tryd.func13, Tryd.ntmps13
    go_wp2_with fail
    refine (hGood_any _ _ _).mono ?_
    rintro e w1 ⟨rfl, hk⟩
    obtain ⟨hc, hf⟩ := hk.cells
    have z := hk.size
    simp at z
    go_wp2_with fail
    exact bodyPost_ret (v := .tuple #[hx 0 0, .bool false]) (by simp [results, Tryd.results13, go_sem, *]) rfl ⟨rfl, ((((((Kp.refl _).alloc _).alloc _).alloc _).trans hk).setCell (by simp <;> omega) _).setCell (by simp <;> omega) _⟩
  · have A1 := okH_true ha
    cases hb : okH cq cr
    · have e : mirOk q r cq cr = false := by simp [mirOk, hb]
      rw [e]
      go_enter Tryd.func13, Tryd.ntmps13
      go_wp2_with fail
      refine (hGood_any _ _ _).mono ?_
      rintro e wa ⟨rfl, ka⟩
      obtain ⟨ca, fa⟩ := ka.cells
      have za := ka.size
      simp at za
      have za0 : w.heap.size < wa.heap.size ∧ w.heap.size + 1 < wa.heap.size ∧ w.heap.size + 1 + 1 < wa.heap.size := by omega
      go_wp2_with fail
      refine (hGood_any _ _ _).mono ?_
      rintro e w1 ⟨rfl, hk⟩
      obtain ⟨hc, hf⟩ := hk.cells
      go_wp2_with fail
      exact bodyPost_ret (v := .tuple #[hx 0 0, .bool false]) (by simp [results, Tryd.results13, go_sem, *]) rfl ⟨rfl, (((((((Kp.refl _).alloc _).alloc _).alloc _).trans ka).trans hk).setCell (by simp <;> omega) _).setCell (by simp <;> omega) _⟩
    · have B1 := okH_true hb
      have E : mirOk q r cq cr = okH (cq + r - cr) (cr + q - cq) := by simp only [mirOk, ha, hb, Bool.true_and]; congr 1 <;> omega
      have HE := Lib.hid E
      clear E
      go_enter Tryd.func13, Tryd.ntmps13
      go_wp2_with fail
      refine (hGood_any _ _ _).mono ?_
      rintro e wa ⟨rfl, ka⟩
      obtain ⟨ca, fa⟩ := ka.cells
      have za := ka.size
      simp at za
      have za0 : w.heap.size < wa.heap.size ∧ w.heap.size + 1 < wa.heap.size ∧ w.heap.size + 1 + 1 < wa.heap.size := by omega
      go_wp2_with fail
      refine (hGood_any _ _ _).mono ?_
      rintro e wb ⟨rfl, kb⟩
      obtain ⟨cb, fb⟩ := kb.cells
      have zb := kb.size
      have zb0 : w.heap.size < wb.heap.size ∧ w.heap.size + 1 < wb.heap.size ∧ w.heap.size + 1 + 1 < wb.heap.size := by omega
      go_wp2_with fail
      refine (hIf_any _ _ _).mono ?_
      rintro e w1 ⟨rfl, kc⟩
      obtain ⟨cc, fc⟩ := kc.cells
      have zc := kc.size
      go_wp2_with fail
      refine bodyPost_ret (v := hb3 (okH (cq + r - cr) (cr + q - cq)) (cq + r - cr) (cr + q - cq)) (by simp [results, Tryd.results13, go_sem, *]) rfl ⟨?_, ((((((((Kp.refl _).alloc _).alloc _).alloc _).trans ka).trans kb).trans kc).setCell (by simp <;> omega) _).setCell (by simp <;> omega) _⟩
      exact congrArg _ (hb3_eq HE.out.symm (by omega) (by omega))

theorem specTurnHex_any (q r cq cr k : Int) (w : World) :
    Calls Tryd.prog 11 #[hx q r, hx cq cr, .int .i64 k] w fun e w' => e = .returned (hb3 (turnOk q r cq cr k) (cq + (turnN (q - cq) (r - cr) k.toNat).1) (cr + (turnN (q - cq) (r - cr) k.toNat).2)) ∧ Kp w w' := by
  have hl : w.heap.size < w.heap.size + 1 + 1 + 1 ∧ w.heap.size + 1 < w.heap.size + 1 + 1 + 1 := by omega
  cases ha : okH q r
  · have e : turnOk q r cq cr k = false := by simp [turnOk, ha]
    rw [e]
    go_enter Tryd.func11, Tryd.ntmps11
    go_wp2_with fail
    refine (hGood_any _ _ _).mono ?_
    rintro e w1 ⟨rfl, hk⟩
    obtain ⟨hc, hf⟩ := hk.cells
    have z := hk.size
    simp at z
    go_wp2_with fail
    exact bodyPost_ret (v := .tuple #[hx 0 0, .bool false]) (by simp [results, Tryd.results11, go_sem, *]) rfl ⟨rfl, ((((((Kp.refl _).alloc _).alloc _).alloc _).trans hk).setCell (by simp <;> omega) _).setCell (by simp <;> omega) _⟩
  · have A1 := okH_true ha
    cases hb : okH cq cr
    · have e : turnOk q r cq cr k = false := by simp [turnOk, hb]
      rw [e]
      go_enter Tryd.func11, Tryd.ntmps11
      go_wp2_with fail
      refine (hGood_any _ _ _).mono ?_
      rintro e wa ⟨rfl, ka⟩
      obtain ⟨ca, fa⟩ := ka.cells
      have za := ka.size
      simp at za
      have za0 : w.heap.size < wa.heap.size ∧ w.heap.size + 1 < wa.heap.size ∧ w.heap.size + 1 + 1 < wa.heap.size := by omega
      go_wp2_with fail
      refine (hGood_any _ _ _).mono ?_
      rintro e w1 ⟨rfl, hk⟩
      obtain ⟨hc, hf⟩ := hk.cells
      go_wp2_with fail
      exact bodyPost_ret (v := .tuple #[hx 0 0, .bool false]) (by simp [results, Tryd.results11, go_sem, *]) rfl ⟨rfl, (((((((Kp.refl _).alloc _).alloc _).alloc _).trans ka).trans hk).setCell (by simp <;> omega) _).setCell (by simp <;> omega) _⟩
    · have B1 := okH_true hb
      by_cases hk05 : 0 ≤ k ∧ k ≤ 5
      · obtain ⟨g0, g5⟩ := hk05
        obtain ⟨n, rfl⟩ := Int.eq_ofNat_of_zero_le g0
        have bd := turnN_bd (a := q - cq) (b := r - cr) (by omega) (by omega) (by omega) (by omega)
        have HE := Lib.hid (show turnOk q r cq cr n = okH (cq + (turnN (q - cq) (r - cr) n).1) (cr + (turnN (q - cq) (r - cr) n).2) by simp [turnOk, ha, hb, g5])
        rw [HE.out, Int.toNat_natCast]
        have HB := Lib.hid bd
        clear bd
        have d0 : (decide ((0 : Int) ≤ n) && decide ((n : Int) ≤ 5)) = true := by simp [g5]
        go_enter Tryd.func11, Tryd.ntmps11
        go_wp2_with fail
        refine (hGood_any _ _ _).mono ?_
        rintro e wa ⟨rfl, ka⟩
        obtain ⟨ca, fa⟩ := ka.cells
        have za := ka.size
        simp at za
        have za0 : w.heap.size < wa.heap.size ∧ w.heap.size + 1 < wa.heap.size ∧ w.heap.size + 1 + 1 < wa.heap.size := by omega
        go_wp2_with fail
        refine (hGood_any _ _ _).mono ?_
        rintro e wb ⟨rfl, kb⟩
        obtain ⟨cb, fb⟩ := kb.cells
        have zb := kb.size
        have zb0 : w.heap.size < wb.heap.size ∧ w.heap.size + 1 < wb.heap.size ∧ w.heap.size + 1 + 1 < wb.heap.size := by omega
        go_wp2_with fail
        refine (l1In_gen _ _ _ _).mono ?_
        rintro e w1 ⟨rfl, rfl⟩
        rw [d0]
        go_wp2_with fail
        go_quiet (fail)
        go_wp2_with fail
        have cw : (wb.drewN nq).cell? ⟨w.heap.size + 1, 0, none⟩ = some (.int .i64 cq) ∧ (wb.drewN nq).cell? ⟨w.heap.size + 1, 1, none⟩ = some (.int .i64 cr) ∧ (wb.drewN nq).cell? ⟨w.heap.size + 1 + 1, 0, none⟩ = some (.int .i64 0) ∧ (wb.drewN nq).cell? ⟨w.heap.size + 1 + 1, 1, none⟩ = some (.int .i64 0) ∧ (wb.drewN nq).frozen? ⟨w.heap.size + 1 + 1, 0, none⟩ = false ∧ (wb.drewN nq).frozen? ⟨w.heap.size + 1 + 1, 1, none⟩ = false := by
          refine ⟨?_, ?_, ?_, ?_, ?_, ?_⟩ <;> simp [go_sem, *]
        have K1 : Kp w (wb.drewN nq) := (((((((Kp.refl _).alloc _).alloc _).alloc _).trans ka).trans kb)).drewN _
        have z1 : w.heap.size + 1 + 1 < (wb.drewN nq).heap.size := zb0.2.2
        generalize wb.drewN nq = w1 at *
        clear ca fa ka za za0 cb fb kb zb zb0 wa
        go_loop [2, 8, 9] (fun kk a b => ∃ i : Nat, i ≤ n ∧ kk = .int .i64 ((n : Int) - i) ∧ a = .int .i64 (turnN (q - cq) (r - cr) i).1 ∧ b = .int .i64 (turnN (q - cq) (r - cr) i).2) (fun kk _ _ => (intOf kk).toNat)
        case atStart => exact ⟨0, Nat.zero_le _, by simp, rfl, rfl⟩
        case round =>
          obtain ⟨i, hi, rfl, rfl, rfl⟩ := hrel
          have sb := HB.out i (by omega)
          by_cases hlt : i < n
          · have hp : (0 : Int) < (n : Int) - i := by omega
            have sb' := HB.out (i + 1) (by omega)
            have HT := Lib.hid (show turnN (q - cq) (r - cr) (i + 1) = (-(turnN (q - cq) (r - cr) i).2, (turnN (q - cq) (r - cr) i).1 + (turnN (q - cq) (r - cr) i).2) from rfl)
            clear sb'
            go_wp2_with fail
            go_round
            case rel => exact ⟨i + 1, by omega, by go_num, by rw [HT.out], by rw [HT.out]⟩
            case measure => simp [intOf]; omega
          · obtain rfl : i = n := by omega
            have hp : ¬ (0 : Int) < (i : Int) - i := by omega
            go_wp2_with fail
            refine (hIf_any _ _ _).mono ?_
            rintro e w2 ⟨rfl, kc⟩
            obtain ⟨cc, fc⟩ := kc.cells
            go_wp2_with fail
            exact bodyPost_ret (v := hb3 (okH (cq + (turnN (q - cq) (r - cr) i).1) (cr + (turnN (q - cq) (r - cr) i).2)) (cq + (turnN (q - cq) (r - cr) i).1) (cr + (turnN (q - cq) (r - cr) i).2)) (by simp [results, Tryd.results11, go_sem, *]) rfl ⟨rfl, ((K1.trans kc).setCell (by simp <;> omega) _).setCell (by simp <;> omega) _⟩
      · have d0 : (decide ((0 : Int) ≤ k) && decide (k ≤ 5)) = false := by
          rcases Int.lt_or_le k 0 with h | h
          · have : decide (0 ≤ k) = false := by simp; omega
            rw [this, Bool.false_and]
          · have : decide (k ≤ 5) = false := by simp; omega
            rw [this, Bool.and_false]
        have e : turnOk q r cq cr k = false := by simp only [turnOk, d0, Bool.and_false, Bool.false_and]
        rw [e]
        go_enter Tryd.func11, Tryd.ntmps11
        go_wp2_with fail
        refine (hGood_any _ _ _).mono ?_
        rintro e wa ⟨rfl, ka⟩
        obtain ⟨ca, fa⟩ := ka.cells
        have za := ka.size
        simp at za
        have za0 : w.heap.size < wa.heap.size ∧ w.heap.size + 1 < wa.heap.size ∧ w.heap.size + 1 + 1 < wa.heap.size := by omega
        go_wp2_with fail
        refine (hGood_any _ _ _).mono ?_
        rintro e wb ⟨rfl, kb⟩
        obtain ⟨cb, fb⟩ := kb.cells
        have zb := kb.size
        have zb0 : w.heap.size < wb.heap.size ∧ w.heap.size + 1 < wb.heap.size ∧ w.heap.size + 1 + 1 < wb.heap.size := by omega
        go_wp2_with fail
        refine (l1In_gen _ _ _ _).mono ?_
        rintro e w1 ⟨rfl, rfl⟩
        rw [d0]
        go_wp2_with fail
        exact bodyPost_ret (v := .tuple #[hx 0 0, .bool false]) (by simp [results, Tryd.results11, go_sem, *]) rfl ⟨rfl, (((((((Kp.refl _).alloc _).alloc _).alloc _).trans ka).trans kb).setCell (by simp <;> omega) _).setCell (by simp <;> omega) _⟩
end Go.Proofs.YtejgfjffndjjnaaDoor
