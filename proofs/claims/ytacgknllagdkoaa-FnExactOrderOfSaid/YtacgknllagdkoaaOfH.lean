/-
  OrderOf of both sides. Nothing that was there is changed.
-/
import Derived.Test.YtacgknllagdkoaaOfG
namespace Go.Proofs.Ytacgknllagdkoaa
open Go.ChangeShapes Go.WideShapes Go.ChangeAt Go.RowKit Go.Joins Go.Deep

set_option maxRecDepth 100000 in
set_option maxHeartbeats 4000000 in
theorem orderOfP_any (sd u : Int) (A : Option Addr) (n c : Nat) (l : List Odr) (w : World) (hx : RdOS w A n l) (hn : n ≤ 1048576) (hp : ∀ x ∈ l, x.p.length ≤ 1048576) :
    Calls Try.prog 7 #[hv sd (.slice A n c), .int .i64 u] w (OfPost (fndO u l) w) := by
  have K0 : Kp w (((w.alloc (.cells #[.int .i64 sd, .slice A n c] 33)).alloc (.cells #[.int .i64 u] 3)).alloc (.cells #[.int .i64 0, .slice none 0 0, .int .i64 0] 28)) := (((Kp.refl w).alloc _).alloc _).alloc _
  have CI := Lib.hid (ofIdx_any u (w.heap.size + 1) A n c l (((w.alloc (.cells #[.int .i64 sd, .slice A n c] 33)).alloc (.cells #[.int .i64 u] 3)).alloc (.cells #[.int .i64 0, .slice none 0 0, .int .i64 0] 28)) (hx.keep K0) hn (by simp [go_sem]))
  have hx0 := hx
  rcases idx_fnd u l 0 with ⟨hi, hf⟩ | ⟨q, x, hi, hq, hf⟩
  · rw [hi] at CI
    rw [hf]
    clear hi hf hx hx0 hp
    go_enter Try.func7, Try.ntmps7
    go_wp2_with fail
    refine CI.out.mono ?_
    rintro e1 w1 ⟨rfl, k1⟩
    have m0 := k1.liv (p := ⟨w.heap.size + 1 + 1, 0, none⟩) (v := .int .i64 0) ⟨by simp [go_sem], by simp [go_sem]⟩
    obtain ⟨m0a, m0b⟩ := m0
    have m1 := k1.liv (p := ⟨w.heap.size + 1 + 1, 1, none⟩) (v := .slice none 0 0) ⟨by simp [go_sem], by simp [go_sem]⟩
    obtain ⟨m1a, m1b⟩ := m1
    have m2 := k1.liv (p := ⟨w.heap.size + 1 + 1, 2, none⟩) (v := .int .i64 0) ⟨by simp [go_sem], by simp [go_sem]⟩
    obtain ⟨m2a, m2b⟩ := m2
    have K1 := K0.trans k1
    clear k1 K0 CI
    go_wp2_with fail
    refine bodyPost_ret (v := .tuple #[ov 0 (.slice none 0 0) 0, .bool false]) (by simp [results, Try.results7, go_sem, *]) rfl ⟨none, 0, rfl, OwnI.nil _ _, ?_⟩
    exact (((K1.setCell (by simp <;> omega) _).setCell (by simp <;> omega) _).setCell (by simp <;> omega) _)
  · rw [Nat.zero_add] at hi
    rw [hi] at CI
    rw [hf]
    obtain ⟨ux, px, ax⟩ := x
    have hpl := hp _ (List.mem_of_getElem? hq)
    have hqn : q < n := by have := lt_of_at hq; have := hx.1; omega
    obtain ⟨g, off, rfl, hc⟩ := hx.2 (by omega)
    obtain ⟨Ao, cx, ⟨a0w, a1w, a2w⟩, ra, sa⟩ := hc q _ hq
    simp only at hpl a0w a1w a2w ra sa
    have CC : Hid (∀ w, RdI w (.slice Ao px.length cx) px → Calls Try.prog 18 #[ov ux (.slice Ao px.length cx) ax] w fun e w' => ∃ A' c', e = .returned (ov ux (.slice A' px.length c') ax) ∧ OwnI w' w.heap.size (.slice A' px.length c') px ∧ Kp w w') := Lib.hid fun w h => copyOrder_any ux ax _ px w sa h hpl
    have RA := Lib.hid ra
    have hqi : (q : Int) < n := by omega
    have hq0 : ¬ (q : Int) < 0 := by omega
    have hgo : g < w.heap.size := by
      have := K0.size
      rcases Nat.lt_or_ge g w.heap.size with h | h
      · exact h
      · simp [World.cell?, Array.getElem?_eq_none h] at a0w
    clear hi hf hx hx0 hp hc hq sa ra hpl
    go_enter Try.func7, Try.ntmps7
    go_wp2_with fail
    refine CI.out.mono ?_
    rintro e1 w1 ⟨rfl, k1⟩
    have t1 : w1.cell? ⟨w.heap.size, 1, none⟩ = some (.slice (some ⟨g, off, none⟩) n c) := k1.cell (by simp [go_sem])
    have m0 := k1.liv (p := ⟨w.heap.size + 1 + 1, 0, none⟩) (v := .int .i64 0) ⟨by simp [go_sem], by simp [go_sem]⟩
    obtain ⟨m0a, m0b⟩ := m0
    have m1 := k1.liv (p := ⟨w.heap.size + 1 + 1, 1, none⟩) (v := .slice none 0 0) ⟨by simp [go_sem], by simp [go_sem]⟩
    obtain ⟨m1a, m1b⟩ := m1
    have m2 := k1.liv (p := ⟨w.heap.size + 1 + 1, 2, none⟩) (v := .int .i64 0) ⟨by simp [go_sem], by simp [go_sem]⟩
    obtain ⟨m2a, m2b⟩ := m2
    have K1 := K0.trans k1
    have a0 := K1.cell a0w
    have a1 := K1.cell a1w
    have a2 := K1.cell a2w
    have R1 := Lib.hid (RA.out.keep K1)
    have z1 : w.heap.size + 3 ≤ w1.heap.size := by have := k1.size; simp at this; omega
    clear k1 K0 CI a0w a1w a2w RA
    go_wp2_with fail
    refine (CC.out _ R1.out).mono ?_
    rintro e2 w2 ⟨A2, c2, rfl, o2, k2⟩
    obtain ⟨l0a, l0b⟩ := k2.liv ⟨m0a, m0b⟩
    obtain ⟨l1a, l1b⟩ := k2.liv ⟨m1a, m1b⟩
    obtain ⟨l2a, l2b⟩ := k2.liv ⟨m2a, m2b⟩
    have K2 := K1.trans k2
    have O2 := Lib.hid (o2.base (b := w.heap.size + 3) (by omega))
    clear o2 k2 K1 m0a m0b m1a m1b m2a m2b a0 a1 a2 t1
    go_wp2_with fail
    have n2 : ∀ g, g < w.heap.size + 3 → (Value.slice A2 px.length c2).ownBlock ≠ some g := fun g hg => O2.out.not (by omega)
    refine bodyPost_ret (v := .tuple #[ov ux (.slice A2 px.length c2) ax, .bool true]) (by simp [results, Try.results7, go_sem, *]) rfl ⟨A2, c2, rfl, ?_, ?_⟩
    · exact (((O2.out.far (n2 _ (by omega)) _).far (n2 _ (by omega)) _).far (n2 _ (by omega)) _).base (by omega)
    · exact (((K2.setCell (by simp <;> omega) _).setCell (by simp <;> omega) _).setCell (by simp <;> omega) _)

set_option maxRecDepth 100000 in
set_option maxHeartbeats 4000000 in
theorem orderOfS_any (sd u : Int) (A : Option Addr) (n c : Nat) (l : List Odr) (w : World) (hx : RdOS w A n l) (hn : n ≤ 1048576) (hp : ∀ x ∈ l, x.p.length ≤ 1048576) :
    Calls Try.prog 5 #[hv sd (.slice A n c), .int .i64 u] w (OfPost (fndO u l) w) := by
  have K0 : Kp w ((w.alloc (.cells #[.int .i64 sd, .slice A n c] 33)).alloc (.cells #[.int .i64 0, .slice none 0 0, .int .i64 0] 28)) := ((Kp.refl w).alloc _).alloc _
  have HX := Lib.hid hx.2
  have HN := Lib.hid hx.1
  have HP := Lib.hid hp
  obtain ⟨R, hR⟩ : ∃ R, R = fndO u l := ⟨_, rfl⟩
  rw [← hR]
  have HR := Lib.hid hR
  have hz0 : ((w.alloc (.cells #[.int .i64 sd, .slice A n c] 33)).alloc (.cells #[.int .i64 0, .slice none 0 0, .int .i64 0] 28)).heap.size = w.heap.size + 2 := by simp
  have m0 := (Kp.refl ((w.alloc (.cells #[.int .i64 sd, .slice A n c] 33)).alloc (.cells #[.int .i64 0, .slice none 0 0, .int .i64 0] 28))).liv (p := ⟨w.heap.size + 1, 0, none⟩) (v := .int .i64 0) ⟨by simp [go_sem], by simp [go_sem]⟩
  obtain ⟨m0a, m0b⟩ := m0
  have m1 := (Kp.refl ((w.alloc (.cells #[.int .i64 sd, .slice A n c] 33)).alloc (.cells #[.int .i64 0, .slice none 0 0, .int .i64 0] 28))).liv (p := ⟨w.heap.size + 1, 1, none⟩) (v := .slice none 0 0) ⟨by simp [go_sem], by simp [go_sem]⟩
  obtain ⟨m1a, m1b⟩ := m1
  have m2 := (Kp.refl ((w.alloc (.cells #[.int .i64 sd, .slice A n c] 33)).alloc (.cells #[.int .i64 0, .slice none 0 0, .int .i64 0] 28))).liv (p := ⟨w.heap.size + 1, 2, none⟩) (v := .int .i64 0) ⟨by simp [go_sem], by simp [go_sem]⟩
  obtain ⟨m2a, m2b⟩ := m2
  clear hx hp hR
  go_enter Try.func5, Try.ntmps5
  go_wp2_with fail
  generalize ((w.alloc (.cells #[.int .i64 sd, .slice A n c] 33)).alloc (.cells #[.int .i64 0, .slice none 0 0, .int .i64 0] 28)) = W0 at *
  go_loopw [7, 11] (fun _ i wr => ∃ q : Nat, q ≤ n ∧ i = .int .i64 q ∧ Hid (fndO u (l.drop q) = R) ∧ Kp W0 wr) (fun _ i _ => n - (intOf i).toNat)
  case atStart => exact ⟨0, by omega, rfl, Lib.hid (by rw [List.drop_zero]; exact HR.out.symm), Kp.refl _⟩
  case round =>
    obtain ⟨q, hqn, rfl, hE, kr⟩ := hrel
    have zr := kr.size
    by_cases hlt : q < n
    · obtain ⟨g, off, rfl, hc⟩ := HX.out (by omega)
      obtain ⟨z, hz⟩ : ∃ z, l[q]? = some z := ⟨l[q]'(by have := HN.out; omega), List.getElem?_eq_getElem _⟩
      obtain ⟨Ao, cx, ⟨a0w, a1w, a2w⟩, ra, sa⟩ := hc q z hz
      have Kr := K0.trans kr
      have a0 := Kr.cell a0w
      have a1 := Kr.cell a1w
      have a2 := Kr.cell a2w
      have hpl := HP.out z (List.mem_of_getElem? hz)
      have HZ := Lib.hid hz
      have hlt' : (q : Int) < n := by omega
      clear hc hz a0w a1w a2w
      obtain ⟨ux, px, ax⟩ := z
      simp only at a0 a1 a2 hpl ra sa
      by_cases hok : ux = u
      · have HST : Hid (R = some ⟨ux, px, ax⟩) := Lib.hid (by rw [← hE.out, fndO_stop HZ.out hok])
        have CC : Hid (∀ w, RdI w (.slice Ao px.length cx) px → Calls Try.prog 14 #[ov ux (.slice Ao px.length cx) ax] w fun e w' => ∃ A' c', e = .returned (ov ux (.slice A' px.length c') ax) ∧ OwnI w' w.heap.size (.slice A' px.length c') px ∧ Kp w w') := Lib.hid fun w h => oOwn_any ux ax _ px w sa h hpl
        have hd : (ux == u) = true := by simpa using hok
        have K5 : Kp W0 (wr.alloc (.cells #[.int .i64 ux, .slice Ao px.length cx, .int .i64 ax] 28)) := kr.alloc _
        have R5 := Lib.hid (ra.keep (K0.trans K5))
        clear hok ra sa hpl
        go_wp2_with fail
        refine (CC.out _ R5.out).mono ?_
        rintro e2 w2 ⟨A2, c2, rfl, o2, k2⟩
        have K7 := K5.trans k2
        obtain ⟨l0a, l0b⟩ := K7.liv ⟨m0a, m0b⟩
        obtain ⟨l1a, l1b⟩ := K7.liv ⟨m1a, m1b⟩
        obtain ⟨l2a, l2b⟩ := K7.liv ⟨m2a, m2b⟩
        have K2 := K0.trans K7
        have O2 := Lib.hid (o2.base (b := w.heap.size + 2) (by simp; omega))
        clear o2 k2 K0 kr Kr K5 K7 a0 a1 a2 m0a m0b m1a m1b m2a m2b
        go_wp2_with fail
        rw [HST.out]
        have n2 : ∀ g, g < w.heap.size + 2 → (Value.slice A2 px.length c2).ownBlock ≠ some g := fun g hg => O2.out.not (by omega)
        refine bodyPost_ret (v := .tuple #[ov ux (.slice A2 px.length c2) ax, .bool true]) (by simp [results, Try.results5, go_sem, *]) rfl ⟨A2, c2, rfl, ?_, ?_⟩
        · exact (((O2.out.far (n2 _ (by omega)) _).far (n2 _ (by omega)) _).far (n2 _ (by omega)) _).base (by omega)
        · exact (((K2.setCell (by simp <;> omega) _).setCell (by simp <;> omega) _).setCell (by simp <;> omega) _)
      · have HE2 : Hid (fndO u (l.drop (q + 1)) = R) := Lib.hid (by rw [← hE.out, fndO_step HZ.out hok])
        have hd : (ux == u) = false := by simpa using hok
        clear hok ra sa hpl
        go_wp2_with fail
        go_roundw
        case rel => exact ⟨q + 1, by omega, by go_num, HE2, kr.alloc _⟩
        case measure => simp [intOf]; omega
    · obtain rfl : q = n := by omega
      have HST : Hid (R = none) := Lib.hid (by
        rw [← hE.out, List.drop_eq_nil_of_le (by have := HN.out; omega)]
        rfl)
      obtain ⟨l0a, l0b⟩ := kr.liv ⟨m0a, m0b⟩
      obtain ⟨l1a, l1b⟩ := kr.liv ⟨m1a, m1b⟩
      obtain ⟨l2a, l2b⟩ := kr.liv ⟨m2a, m2b⟩
      have K2 := K0.trans kr
      clear K0 kr m0a m0b m1a m1b m2a m2b
      go_wp2_with fail
      rw [HST.out]
      refine bodyPost_ret (v := .tuple #[ov 0 (.slice none 0 0) 0, .bool false]) (by simp [results, Try.results5, go_sem, *]) rfl ⟨none, 0, rfl, OwnI.nil _ _, ?_⟩
      exact (((K2.setCell (by simp <;> omega) _).setCell (by simp <;> omega) _).setCell (by simp <;> omega) _)

end Go.Proofs.Ytacgknllagdkoaa
