/-
  The mix of a list of numbers: the program's and the reference's are the plain one, and nothing that was there is changed.
-/
import Derived.Test.YtnobcpgckdgheaaDoorDiM
import Derived.Test.YtnobcpgckdgheaaDoorSpanB
import Derived.Test.YtnobcpgckdgheaaDoorListI
import Derived.StillTailTactics
import Derived.Deep.Cut
import Derived.Maps.AppendAt
namespace Go.Proofs.YtnobcpgckdgheaaDoor
open Go.RowKit

theorem residue_any (n m : Int) (w : World) (h0 : 0 < m) (h1 : m ≤ 2147483648) :
    Calls Tryd.prog 66 #[.int .i64 n, .int .i64 m] w fun e w' => e = .returned (.int .i64 (n % m)) ∧ w' = w := by
  have hb := res_bd (n := n) h0
  have hm : m ≠ 0 := by omega
  by_cases h : n.tmod m < 0
  · have e := Lib.hid (res_neg h0 h)
    have d : decide (n.tmod m < 0) = true := by simpa using h
    go_enter Tryd.func66, Tryd.ntmps66
    go_wp2
    go_ret
    exact ⟨ret_int e.out, rfl⟩
  · have e := Lib.hid (res_pos (n := n) h0 (by omega))
    have d : decide (n.tmod m < 0) = false := by simpa using h
    go_enter Tryd.func66, Tryd.ntmps66
    go_wp2
    go_ret
    exact ⟨ret_int e.out, rfl⟩

theorem dMod_any (n m : Int) (w : World) (h0 : 0 < m) (h1 : m ≤ 2147483648) :
    Calls Tryd.prog 67 #[.int .i64 n, .int .i64 m] w fun e w' => e = .returned (.int .i64 (n % m)) ∧ w' = w := by
  have hb := res_bd (n := n) h0
  have hb2 := res_bd (n := n.tmod m + m) h0
  have hm : m ≠ 0 := by omega
  have e : Hid ((n.tmod m + m) % m = n % m) := Lib.hid (by rw [← Int.tmod_eq_emod_of_nonneg (by omega)]; exact res_both h0)
  go_enter Tryd.func67, Tryd.ntmps67
  go_wp2
  go_ret
  exact ⟨ret_int e.out, rfl⟩

/-- A box of two numbers that may be written. -/
def Bx (W : World) (g : Nat) (a b : Int) : Prop := W.cell? ⟨g, 0, none⟩ = some (.int .i64 a) ∧ W.cell? ⟨g, 1, none⟩ = some (.int .i64 b) ∧ W.frozen? ⟨g, 0, none⟩ = false ∧ W.frozen? ⟨g, 1, none⟩ = false
theorem Bx.keep {W W' : World} {g : Nat} {a b : Int} (h : Bx W g a b) (k : Kp W W') : Bx W' g a b := by
  have hlt : g < W.heap.size := cell_lt h.1
  exact ⟨k.cell h.1, k.cell h.2.1, (k.cells.2 g 0 hlt).trans h.2.2.1, (k.cells.2 g 1 hlt).trans h.2.2.2⟩
theorem Bx.drew {W : World} {g : Nat} {a b : Int} (h : Bx W g a b) : Bx W.drew g a b := h
theorem Bx.set0 {W : World} {g : Nat} {a b : Int} (h : Bx W g a b) (x : Int) : Bx (W.setCell ⟨g, 0, none⟩ (.int .i64 x)) g x b := by
  obtain ⟨h0, h1, f0, f1⟩ := h
  exact ⟨by simp [go_sem, *], by simp [go_sem, *], by simp [go_sem, *], by simp [go_sem, *]⟩
theorem Bx.set1 {W : World} {g : Nat} {a b : Int} (h : Bx W g a b) (x : Int) : Bx (W.setCell ⟨g, 1, none⟩ (.int .i64 x)) g a x := by
  obtain ⟨h0, h1, f0, f1⟩ := h
  exact ⟨by simp [go_sem, *], by simp [go_sem, *], by simp [go_sem, *], by simp [go_sem, *]⟩
theorem Bx.far {W : World} {g : Nat} {a b : Int} (h : Bx W g a b) {q o : Nat} (hp : q ≠ g) (u : Value) : Bx (W.setCell ⟨q, o, none⟩ u) g a b := by
  obtain ⟨h0, h1, f0, f1⟩ := h
  have hq : g ≠ q := fun e => hp e.symm
  exact ⟨by simp [go_sem, *], by simp [go_sem, *], by simp [go_sem, *], by simp [go_sem, *]⟩
theorem Bx.new (w : World) (a b : Int) (t : TypeId) : Bx (w.alloc (.cells #[.int .i64 a, .int .i64 b] t)) w.heap.size a b :=
  ⟨by simp [go_sem], by simp [go_sem], by simp [go_sem], by simp [go_sem]⟩

theorem with_any (a b x : Int) (w : World) (h : MixBd a b) :
    Calls Tryd.prog 63 #[mx a b, .int .i64 x] w fun e w' => e = .returned (mx (mA a b x) (mB (mA a b x) b x)) ∧ Kp w w' := by
  obtain ⟨a0, a1, b0, b1⟩ := h
  have r1 := emod_bd (n := x) (m := 2147483647) (by omega)
  have r2 := emod_bd (n := x) (m := 2147483629) (by omega)
  have ba := mA_bd a b x
  have bb := mB_bd (mA a b x) b x
  have e1 := Lib.hid (show (16807 * a + x % 2147483647 + b) % 2147483647 = mA a b x from rfl)
  have e2 := Lib.hid (show (39373 * b + x % 2147483629 + mA a b x) % 2147483629 = mB (mA a b x) b x from rfl)
  generalize mB (mA a b x) b x = B at *
  generalize mA a b x = A at *
  have C1 := Lib.hid (fun w => residue_any x 2147483647 w (by omega) (by omega))
  have C2 := Lib.hid (fun w => residue_any x 2147483629 w (by omega) (by omega))
  generalize x % 2147483647 = X1 at *
  generalize x % 2147483629 = X2 at *
  have C3 := Lib.hid (fun w => residue_any (16807 * a + X1 + b) 2147483647 w (by omega) (by omega))
  have C4 := Lib.hid (fun w => residue_any (39373 * b + X2 + A) 2147483629 w (by omega) (by omega))
  rw [e1.out] at C3
  rw [e2.out] at C4
  clear e1 e2
  have m1 : IntKind.i64.wrap (16807 * a) = 16807 * a := IntWalk.i64_in _ (by omega)
  have m2 : IntKind.i64.wrap (16807 * a + X1) = 16807 * a + X1 := IntWalk.i64_in _ (by omega)
  have m3 : IntKind.i64.wrap (16807 * a + X1 + b) = 16807 * a + X1 + b := IntWalk.i64_in _ (by omega)
  have m4 : IntKind.i64.wrap (39373 * b) = 39373 * b := IntWalk.i64_in _ (by omega)
  have m5 : IntKind.i64.wrap (39373 * b + X2) = 39373 * b + X2 := IntWalk.i64_in _ (by omega)
  have m6 : IntKind.i64.wrap (39373 * b + X2 + A) = 39373 * b + X2 + A := IntWalk.i64_in _ (by omega)
  have hk : Kp w ((w.alloc (.cells #[.int .i64 a, .int .i64 b] 83)).alloc (.cells #[.int .i64 0, .int .i64 0] 83)) := ((Kp.refl _).alloc _).alloc _
  have hx : Bx ((w.alloc (.cells #[.int .i64 a, .int .i64 b] 83)).alloc (.cells #[.int .i64 0, .int .i64 0] 83)) w.heap.size a b := (Bx.new w a b _).keep ((Kp.refl _).alloc _)
  have hy : Bx ((w.alloc (.cells #[.int .i64 a, .int .i64 b] 83)).alloc (.cells #[.int .i64 0, .int .i64 0] 83)) (w.heap.size + 1) 0 0 := by
    have := Bx.new (w.alloc (.cells #[.int .i64 a, .int .i64 b] 83)) 0 0 83
    simpa using this
  go_enter Tryd.func63, Tryd.ntmps63
  go_upto_region 1 with fail
  generalize (w.alloc (.cells #[.int .i64 a, .int .i64 b] 83)).alloc (.cells #[.int .i64 0, .int .i64 0] 83) = W0 at *
  obtain ⟨c0, c1, -, -⟩ := id hx
  go_wp2_with fail
  refine wp_region_still_tail 11 (by kernel_rfl) (by kernel_rfl) ?_
  simp only [List.take_succ_cons, List.take_zero, List.drop_succ_cons, List.drop_zero]
  repeat still_step
  still_call (C1.out _)
  repeat still_step
  still_call (C3.out _)
  repeat still_step
  refine wpStill_nil ?_
  change wpList _ _ _ _ _ W0.drew
  have k1 := hk.drew
  have hx1 := hx.drew
  have hy1 := hy.drew
  clear c0 c1 hk hx hy
  generalize W0.drew = W1 at *
  obtain ⟨-, -, f0, -⟩ := id hx1
  obtain ⟨u0, -, -, -⟩ := id hx1
  go_upto_region 2 with fail
  have k2 := k1.setCell (p := ⟨w.heap.size, 0, none⟩) (by simp) (.int .i64 A)
  have hx2 := hx1.set0 A
  have hy2 := hy1.far (q := w.heap.size) (o := 0) (by simp) (.int .i64 A)
  clear f0 u0 k1 hx1 hy1
  generalize W1.setCell ⟨w.heap.size, 0, none⟩ (.int .i64 A) = W2 at *
  obtain ⟨c0, c1, -, -⟩ := id hx2
  go_wp2_with fail
  refine wp_region_still_tail 11 (by kernel_rfl) (by kernel_rfl) ?_
  simp only [List.take_succ_cons, List.take_zero, List.drop_succ_cons, List.drop_zero]
  repeat still_step
  still_call (C2.out _)
  repeat still_step
  still_call (C4.out _)
  repeat still_step
  refine wpStill_nil ?_
  change wpList _ _ _ _ _ W2.drew
  have k3 := k2.drew
  have hx3 := hx2.drew
  have hy3 := hy2.drew
  clear c0 c1 k2 hx2 hy2
  generalize W2.drew = W3 at *
  obtain ⟨-, u0, -, f0⟩ := id hx3
  go_upto_region 3 with fail
  have k4 := k3.setCell (p := ⟨w.heap.size, 1, none⟩) (by simp) (.int .i64 B)
  have hx4 := hx3.set1 B
  have hy4 := hy3.far (q := w.heap.size) (o := 1) (by simp) (.int .i64 B)
  clear f0 u0 k3 hx3 hy3
  generalize W3.setCell ⟨w.heap.size, 1, none⟩ (.int .i64 B) = W4 at *
  obtain ⟨c0, c1, -, -⟩ := id hx4
  obtain ⟨d0, d1, f0, f1⟩ := id hy4
  go_wp2_with fail
  exact bodyPost_ret (v := mx A B) (by simp [results, Tryd.results63, go_sem, *]) rfl ⟨rfl, (k4.setCell (by simp) _).setCell (by simp) _⟩

theorem mixOf_any (v : Value) (l : List Int) (w : World) (h : RdI w v l) (hl : l.length ≤ 1048576) :
    Calls Tryd.prog 57 #[v] w fun e w' => e = .returned (mx (mixL l).1 (mixL l).2) ∧ Kp w w' := by
  obtain ⟨A, c, rfl, h⟩ := h
  have HA := Lib.hid h
  clear h
  obtain ⟨M, hM⟩ : ∃ M, M = mixL l := ⟨_, rfl⟩
  have HM : Hid (mixP 7 ((l.length : Int) + 1) (l.drop 0 ++ [1, 1, 1]) = M) := Lib.hid hM.symm
  rw [← hM]
  clear hM
  have hst := MixBd.start hl
  generalize hn : l.length = n at *
  have HN := Lib.hid hn
  clear hn
  have e1 : IntKind.i64.wrap ((n : Int) + 1) = (n : Int) + 1 := IntWalk.i64_in _ (by omega)
  have hx : Bx (((w.alloc (.cells #[.int .i64 0, .int .i64 0] 83)).alloc (.cells #[.int .i64 7, .int .i64 (n + 1)] 83))) w.heap.size 0 0 := (Bx.new w 0 0 _).keep ((Kp.refl _).alloc _)
  have hy : Bx (((w.alloc (.cells #[.int .i64 0, .int .i64 0] 83)).alloc (.cells #[.int .i64 7, .int .i64 (n + 1)] 83))) (w.heap.size + 1) 7 (n + 1) := by
    have := Bx.new (w.alloc (.cells #[.int .i64 0, .int .i64 0] 83)) 7 (n + 1) 83
    simpa using this
  have hk : Kp w (((w.alloc (.cells #[.int .i64 0, .int .i64 0] 83)).alloc (.cells #[.int .i64 7, .int .i64 (n + 1)] 83))) := ((Kp.refl _).alloc _).alloc _
  go_enter Tryd.func57, Tryd.ntmps57
  go_wp2_with fail
  go_loopw [12] (fun i wr => ∃ k : Nat, k ≤ n ∧ i = .int .i64 k ∧ (∃ a b, MixBd a b ∧ Bx wr (w.heap.size + 1) a b ∧ Hid (mixP a b (l.drop k ++ [1, 1, 1]) = M)) ∧ Bx wr w.heap.size 0 0 ∧ Kp w wr) (fun i _ => n - (intOf i).toNat)
  case atStart => exact ⟨0, by omega, rfl, ⟨7, n + 1, hst, hy, HM⟩, hx, hk⟩
  case round =>
    clear hx hy hk HM hst
    obtain ⟨k, hk, rfl, ⟨a, b, hbd, hb, hE⟩, hr, kr⟩ := hrel
    by_cases hlt : k < n
    · have hlt' : (k : Int) < n := by omega
      obtain ⟨g, off, rfl, hc⟩ := HA.out (by omega)
      obtain ⟨x, hx⟩ : ∃ x, l[k]? = some x := ⟨l[k]'(by have := HN.out; omega), List.getElem?_eq_getElem _⟩
      have a0 := kr.cell (hc k x hx)
      have HE : Hid (mixP (mA a b x) (mB (mA a b x) b x) (l.drop (k + 1) ++ [1, 1, 1]) = M) := Lib.hid (by rw [← hE.out, mixP_drop hx])
      have HB := Lib.hid (MixBd.step a b x)
      have C := Lib.hid (fun w => with_any a b x w hbd)
      generalize mB (mA a b x) b x = B at *
      generalize mA a b x = A1 at *
      obtain ⟨c0, c1, f0, f1⟩ := id hb
      clear hc hx hE
      go_wp2_with fail
      refine (C.out _).mono ?_
      rintro e w1 ⟨rfl, k1⟩
      have hb1 := hb.keep k1
      have hr1 := hr.keep k1
      have kr1 := kr.trans k1
      have hz := kr1.size
      clear c0 c1 f0 f1 hb hr kr k1 a0
      obtain ⟨c0, c1, f0, f1⟩ := id hb1
      go_wp2_with fail
      go_roundw
      case rel => exact ⟨k + 1, by omega, by go_num, ⟨A1, B, HB.out, (hb1.set0 A1).set1 B, HE⟩, (hr1.far (by omega) _).far (by omega) _, (kr1.setCell (by simp) _).setCell (by simp) _⟩
      case measure => simp [intOf]; omega
    · obtain rfl : k = n := by omega
      have hd : l.drop k = [] := List.drop_of_length_le (by rw [HN.out]; omega)
      have HE : Hid (mixP a b ([1, 1, 1].drop 0) = M) := Lib.hid (by rw [← hE.out, hd]; rfl)
      clear hd
      clear hE
      go_wp2_with fail
      go_loopw [20] (fun i wz => ∃ j : Nat, j ≤ 3 ∧ i = .int .i64 j ∧ (∃ a b, MixBd a b ∧ Bx wz (w.heap.size + 1) a b ∧ Hid (mixP a b ([1, 1, 1].drop j) = M)) ∧ Bx wz w.heap.size 0 0 ∧ Kp w wz) (fun i _ => 3 - (intOf i).toNat)
      case atStart => exact ⟨0, by omega, rfl, ⟨a, b, hbd, hb, HE⟩, hr, kr⟩
      case round =>
        clear hb hr kr HE hbd
        obtain ⟨j, hj, rfl, ⟨a, b, hbd, hb, hE⟩, hr, kr⟩ := hrel
        by_cases hlt : j < 3
        · have hlt' : (j : Int) < 3 := by omega
          have HE : Hid (mixP (mA a b 1) (mB (mA a b 1) b 1) ([1, 1, 1].drop (j + 1)) = M) := Lib.hid (by
            rw [← hE.out]
            rcases (show j = 0 ∨ j = 1 ∨ j = 2 by omega) with rfl | rfl | rfl <;> rfl)
          have HB := Lib.hid (MixBd.step a b 1)
          have C := Lib.hid (fun w => with_any a b 1 w hbd)
          generalize mB (mA a b 1) b 1 = B at *
          generalize mA a b 1 = A1 at *
          obtain ⟨c0, c1, f0, f1⟩ := id hb
          clear hE
          go_wp2_with fail
          refine (C.out _).mono ?_
          rintro e w1 ⟨rfl, k1⟩
          have hb1 := hb.keep k1
          have hr1 := hr.keep k1
          have kr1 := kr.trans k1
          have hz := kr1.size
          clear c0 c1 f0 f1 hb hr kr k1
          obtain ⟨c0, c1, f0, f1⟩ := id hb1
          go_wp2_with fail
          go_roundw
          case rel => exact ⟨j + 1, by omega, by go_num, ⟨A1, B, HB.out, (hb1.set0 A1).set1 B, HE⟩, (hr1.far (by omega) _).far (by omega) _, (kr1.setCell (by simp) _).setCell (by simp) _⟩
          case measure => simp [intOf]; omega
        · obtain rfl : j = 3 := by omega
          have HE : Hid ((a, b) = M) := Lib.hid (by rw [← hE.out]; rfl)
          obtain ⟨c0, c1, -, -⟩ := id hb
          obtain ⟨d0, d1, f0, f1⟩ := id hr
          clear hE
          go_wp2_with fail
          have := HE.out
          subst this
          exact bodyPost_ret (v := mx a b) (by simp [results, Tryd.results57, go_sem, *]) rfl ⟨rfl, (kr.setCell (by simp) _).setCell (by simp) _⟩

end Go.Proofs.YtnobcpgckdgheaaDoor
