/-
  The reference's step in a direction returns what a plain function on integers says, and changes nothing that was there.
-/
import Derived.Test.YtaakimjkfbpjdaaDoorDir
import Derived.Test.YtaakimjkfbpjdaaDoorStepA
import Derived.Test.YtaakimjkfbpjdaaDoorStepB
namespace Go.Proofs.YtaakimjkfbpjdaaDoor
open Go.RowKit

theorem hStep_any (q r d : Int) (w : World) (hd0 : 0 ≤ d) (hd5 : d ≤ 5) (h1 : -1000 ≤ q) (h2 : q ≤ 1000) (h3 : -1000 ≤ r) (h4 : r ≤ 1000) :
    Calls Tryd.prog 26 #[hx q r, .int .i64 d] w fun e w' => e = .returned (hx (q + dirQ d) (r + dirR d)) ∧ Kp w w' := by
  rcases six hd0 hd5 with rfl | rfl | rfl | rfl | rfl | rfl
  · exact hStep_0 q r w h1 h2 h3 h4
  · exact hStep_1 q r w h1 h2 h3 h4
  · exact hStep_2 q r w h1 h2 h3 h4
  · exact hStep_3 q r w h1 h2 h3 h4
  · exact hStep_4 q r w h1 h2 h3 h4
  · exact hStep_5 q r w h1 h2 h3 h4

theorem specNeighbourOf_any (q r d : Int) (w : World) :
    Calls Tryd.prog 7 #[hx q r, .int .i64 d] w fun e w' => e = .returned (hb3 (nbOk q r d) (q + dirQ d) (r + dirR d)) ∧ Kp w w' := by
  have hl : w.heap.size < w.heap.size + 1 + 1 := by omega
  cases ha : okH q r
  · have e : nbOk q r d = false := by simp [nbOk, ha]
    rw [e]
    go_enter Tryd.func7, Tryd.ntmps7
    go_wp2_with fail
    refine (hGood_any _ _ _).mono ?_
    rintro e w1 ⟨rfl, hk⟩
    obtain ⟨hc, hf⟩ := hk.cells
    go_wp2_with fail
    exact bodyPost_ret (v := .tuple #[hx 0 0, .bool false]) (by simp [results, Tryd.results7, go_sem, *]) rfl ⟨rfl, (((((Kp.refl _).alloc _).alloc _).trans hk).setCell (by simp <;> omega) _).setCell (by simp <;> omega) _⟩
  · have A1 := okH_true ha
    cases hb : decide (0 ≤ d) && decide (d ≤ 5)
    · have e : nbOk q r d = false := by simp only [nbOk, hb, Bool.and_false, Bool.false_and]
      rw [e]
      have HB := Lib.hid hb
      clear hb
      go_enter Tryd.func7, Tryd.ntmps7
      go_wp2_with fail
      refine (hGood_any _ _ _).mono ?_
      rintro e w1 ⟨rfl, hk⟩
      obtain ⟨hc, hf⟩ := hk.cells
      go_wp2_with fail
      refine (l1In_gen _ _ _ _).mono ?_
      rintro e w2 ⟨rfl, rfl⟩
      rw [HB.out]
      go_wp2_with fail
      exact bodyPost_ret (v := .tuple #[hx 0 0, .bool false]) (by simp [results, Tryd.results7, go_sem, *]) rfl ⟨rfl, (((((Kp.refl _).alloc _).alloc _).trans hk).setCell (by simp <;> omega) _).setCell (by simp <;> omega) _⟩
    · have e : nbOk q r d = okH (q + dirQ d) (r + dirR d) := by simp only [nbOk, ha, hb, Bool.true_and]
      rw [e]
      have HB := Lib.hid hb
      simp only [Bool.and_eq_true, decide_eq_true_eq] at hb
      obtain ⟨hd0, hd5⟩ := hb
      clear e
      go_enter Tryd.func7, Tryd.ntmps7
      go_wp2_with fail
      refine (hGood_any _ _ _).mono ?_
      rintro e wa ⟨rfl, ka⟩
      have c20 : wa.cell? ⟨w.heap.size, 0, none⟩ = some (.int .i64 q) := ka.cell (by simp [go_sem])
      have c21 : wa.cell? ⟨w.heap.size, 1, none⟩ = some (.int .i64 r) := ka.cell (by simp [go_sem])
      have L0 : wa.cell? ⟨w.heap.size + 1, 0, none⟩ = some (.int .i64 0) ∧ wa.frozen? ⟨w.heap.size + 1, 0, none⟩ = false := ka.liv ⟨by simp [go_sem], by simp [go_sem]⟩
      have L1 : wa.cell? ⟨w.heap.size + 1, 1, none⟩ = some (.int .i64 0) ∧ wa.frozen? ⟨w.heap.size + 1, 1, none⟩ = false := ka.liv ⟨by simp [go_sem], by simp [go_sem]⟩
      have hK : Kp w wa := (((Kp.refl _).alloc _).alloc _).trans ka
      clear ka hl
      go_wp2_with fail
      refine (l1In_gen _ _ _ _).mono ?_
      rintro e w2 ⟨rfl, rfl⟩
      rw [HB.out]
      go_wp2_with fail
      refine (hStep_any _ _ _ _ hd0 hd5 (by omega) (by omega) (by omega) (by omega)).mono ?_
      rintro e wb ⟨rfl, kb⟩
      have M0 := kb.liv L0
      have M1 := kb.liv L1
      go_wp2_with fail
      refine (hIf_any _ _ _).mono ?_
      rintro e wc ⟨rfl, kc⟩
      have N0 := kc.liv M0
      have N1 := kc.liv M1
      go_wp2_with fail
      exact bodyPost_ret (v := hb3 (okH (q + dirQ d) (r + dirR d)) (q + dirQ d) (r + dirR d)) (by simp [results, Tryd.results7, go_sem, *]) rfl ⟨rfl, (((hK.trans kb).trans kc).setCell (by simp <;> omega) _).setCell (by simp <;> omega) _⟩
end Go.Proofs.YtaakimjkfbpjdaaDoor
