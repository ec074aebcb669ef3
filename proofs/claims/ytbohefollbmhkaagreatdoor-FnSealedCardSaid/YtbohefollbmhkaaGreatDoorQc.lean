/-
  Texts of this seat in one module: DiI, DiJ, PutI, DiK.
-/
import Derived.StillTailTactics
import Derived.Deep.Cut
import Derived.Maps.AppendAt
import Derived.Test.YtbohefollbmhkaaGreatDoorQb

/-
  The mix of a list of numbers: the program's and the reference's are the plain one, and nothing that was there is changed.
-/
namespace Go.Proofs.YtbohefollbmhkaaGreatDoor
open Go.RowKit

theorem residue_any (n m : Int) (w : World) (h0 : 0 < m) (h1 : m ≤ 2147483648) :
    Calls Tryz.prog 69 #[.int .i64 n, .int .i64 m] w fun e w' => e = .returned (.int .i64 (n % m)) ∧ w' = w := by
  have hb := res_bd (n := n) h0
  have hm : m ≠ 0 := by omega
  by_cases h : n.tmod m < 0
  · have e := Lib.hid (res_neg h0 h)
    have d : decide (n.tmod m < 0) = true := by simpa using h
    go_enter Tryz.func69, Tryz.ntmps69
    go_wp2
    go_ret
    exact ⟨ret_int e.out, rfl⟩
  · have e := Lib.hid (res_pos (n := n) h0 (by omega))
    have d : decide (n.tmod m < 0) = false := by simpa using h
    go_enter Tryz.func69, Tryz.ntmps69
    go_wp2
    go_ret
    exact ⟨ret_int e.out, rfl⟩

theorem dMod_any (n m : Int) (w : World) (h0 : 0 < m) (h1 : m ≤ 2147483648) :
    Calls Tryz.prog 71 #[.int .i64 n, .int .i64 m] w fun e w' => e = .returned (.int .i64 (n % m)) ∧ w' = w := by
  have hb := res_bd (n := n) h0
  have hb2 := res_bd (n := n.tmod m + m) h0
  have hm : m ≠ 0 := by omega
  have e : Hid ((n.tmod m + m) % m = n % m) := Lib.hid (by rw [← Int.tmod_eq_emod_of_nonneg (by omega)]; exact res_both h0)
  go_enter Tryz.func71, Tryz.ntmps71
  go_wp2
  go_ret
  exact ⟨ret_int e.out, rfl⟩

/-- A box of two numbers that may be written. -/
def Bx (W : World) (g : Nat) (a b : Int) : Prop := W.cell? ⟨g, 0, none⟩ = some (.int .i64 a) ∧ W.cell? ⟨g, 1, none⟩ = some (.int .i64 b) ∧ W.frozen? ⟨g, 0, none⟩ = false ∧ W.frozen? ⟨g, 1, none⟩ = false
theorem Bx.keep {W W' : World} {g : Nat} {a b : Int} (h : Bx W g a b) (k : Kp W W') : Bx W' g a b := by
  have hlt : g < W.heap.size := cell_lt h.1
  exact ⟨k.cell h.1, k.cell h.2.1, (k.cells.2 g 0 hlt).trans h.2.2.1, (k.cells.2 g 1 hlt).trans h.2.2.2⟩
theorem Bx.drew {W : World} {g : Nat} {a b : Int} (h : Bx W g a b) : Bx W.drew g a b := h
theorem Bx.set0 {W : World} {g : Nat} {a b : Int} (h : Bx W g a b) (x : Int) : Bx (W.setCell ⟨g, 0, none⟩ (.int .i64 x)) g x b := by
  obtain ⟨h0, h1, f0, f1⟩ := h
  exact ⟨by simp [go_sem, *], by simp [go_sem, *], by simp [go_sem, *], by simp [go_sem, *]⟩
theorem Bx.set1 {W : World} {g : Nat} {a b : Int} (h : Bx W g a b) (x : Int) : Bx (W.setCell ⟨g, 1, none⟩ (.int .i64 x)) g a x := by
  obtain ⟨h0, h1, f0, f1⟩ := h
  exact ⟨by simp [go_sem, *], by simp [go_sem, *], by simp [go_sem, *], by simp [go_sem, *]⟩
theorem Bx.far {W : World} {g : Nat} {a b : Int} (h : Bx W g a b) {q o : Nat} (hp : q ≠ g) (u : Value) : Bx (W.setCell ⟨q, o, none⟩ u) g a b := by
  obtain ⟨h0, h1, f0, f1⟩ := h
  have hq : g ≠ q := fun e => hp e.symm
  exact ⟨by simp [go_sem, *], by simp [go_sem, *], by simp [go_sem, *], by simp [go_sem, *]⟩
theorem Bx.new (w : World) (a b : Int) (t : TypeId) : Bx (w.alloc (.cells #[.int .i64 a, .int .i64 b] t)) w.heap.size a b :=
  ⟨by simp [go_sem], by simp [go_sem], by simp [go_sem], by simp [go_sem]⟩

set_option maxRecDepth 100000 in
theorem with_any (a b x : Int) (w : World) (h : MixBd a b) :
    Calls Tryz.prog 60 #[mx a b, .int .i64 x] w fun e w' => e = .returned (mx (mA a b x) (mB (mA a b x) b x)) ∧ Kp w w' := by
  obtain ⟨a0, a1, b0, b1⟩ := h
  have r1 := emod_bd (n := x) (m := 2147483647) (by omega)
  have r2 := emod_bd (n := x) (m := 2147483629) (by omega)
  have ba := mA_bd a b x
  have bb := mB_bd (mA a b x) b x
  have e1 := Lib.hid (show (16807 * a + x % 2147483647 + b) % 2147483647 = mA a b x from rfl)
  have e2 := Lib.hid (show (39373 * b + x % 2147483629 + mA a b x) % 2147483629 = mB (mA a b x) b x from rfl)
  generalize mB (mA a b x) b x = B at *
  generalize mA a b x = A at *
  have C1 := Lib.hid (fun w => residue_any x 2147483647 w (by omega) (by omega))
  have C2 := Lib.hid (fun w => residue_any x 2147483629 w (by omega) (by omega))
  generalize x % 2147483647 = X1 at *
  generalize x % 2147483629 = X2 at *
  have C3 := Lib.hid (fun w => residue_any (16807 * a + X1 + b) 2147483647 w (by omega) (by omega))
  have C4 := Lib.hid (fun w => residue_any (39373 * b + X2 + A) 2147483629 w (by omega) (by omega))
  rw [e1.out] at C3
  rw [e2.out] at C4
  clear e1 e2
  have m1 : IntKind.i64.wrap (16807 * a) = 16807 * a := IntWalk.i64_in _ (by omega)
  have m2 : IntKind.i64.wrap (16807 * a + X1) = 16807 * a + X1 := IntWalk.i64_in _ (by omega)
  have m3 : IntKind.i64.wrap (16807 * a + X1 + b) = 16807 * a + X1 + b := IntWalk.i64_in _ (by omega)
  have m4 : IntKind.i64.wrap (39373 * b) = 39373 * b := IntWalk.i64_in _ (by omega)
  have m5 : IntKind.i64.wrap (39373 * b + X2) = 39373 * b + X2 := IntWalk.i64_in _ (by omega)
  have m6 : IntKind.i64.wrap (39373 * b + X2 + A) = 39373 * b + X2 + A := IntWalk.i64_in _ (by omega)
  have hk : Kp w ((w.alloc (.cells #[.int .i64 a, .int .i64 b] 73)).alloc (.cells #[.int .i64 0, .int .i64 0] 73)) := ((Kp.refl _).alloc _).alloc _
  have hx : Bx ((w.alloc (.cells #[.int .i64 a, .int .i64 b] 73)).alloc (.cells #[.int .i64 0, .int .i64 0] 73)) w.heap.size a b := (Bx.new w a b _).keep ((Kp.refl _).alloc _)
  have hy : Bx ((w.alloc (.cells #[.int .i64 a, .int .i64 b] 73)).alloc (.cells #[.int .i64 0, .int .i64 0] 73)) (w.heap.size + 1) 0 0 := by
    have := Bx.new (w.alloc (.cells #[.int .i64 a, .int .i64 b] 73)) 0 0 73
    simpa using this
  go_enter Tryz.func60, Tryz.ntmps60
  go_upto_region 1 with fail
  generalize (w.alloc (.cells #[.int .i64 a, .int .i64 b] 73)).alloc (.cells #[.int .i64 0, .int .i64 0] 73) = W0 at *
  obtain ⟨c0, c1, -, -⟩ := id hx
  go_wp2_with fail
  refine wp_region_still_tail 11 (by kernel_rfl) (by kernel_rfl) ?_
  simp only [List.take_succ_cons, List.take_zero, List.drop_succ_cons, List.drop_zero]
  repeat still_step
  still_call (C1.out _)
  repeat still_step
  still_call (C3.out _)
  repeat still_step
  refine wpStill_nil ?_
  change wpList _ _ _ _ _ W0.drew
  have k1 := hk.drew
  have hx1 := hx.drew
  have hy1 := hy.drew
  clear c0 c1 hk hx hy
  generalize W0.drew = W1 at *
  obtain ⟨-, -, f0, -⟩ := id hx1
  obtain ⟨u0, -, -, -⟩ := id hx1
  go_upto_region 2 with fail
  have k2 := k1.setCell (p := ⟨w.heap.size, 0, none⟩) (by simp) (.int .i64 A)
  have hx2 := hx1.set0 A
  have hy2 := hy1.far (q := w.heap.size) (o := 0) (by simp) (.int .i64 A)
  clear f0 u0 k1 hx1 hy1
  generalize W1.setCell ⟨w.heap.size, 0, none⟩ (.int .i64 A) = W2 at *
  obtain ⟨c0, c1, -, -⟩ := id hx2
  go_wp2_with fail
  refine wp_region_still_tail 11 (by kernel_rfl) (by kernel_rfl) ?_
  simp only [List.take_succ_cons, List.take_zero, List.drop_succ_cons, List.drop_zero]
  repeat still_step
  still_call (C2.out _)
  repeat still_step
  still_call (C4.out _)
  repeat still_step
  refine wpStill_nil ?_
  change wpList _ _ _ _ _ W2.drew
  have k3 := k2.drew
  have hx3 := hx2.drew
  have hy3 := hy2.drew
  clear c0 c1 k2 hx2 hy2
  generalize W2.drew = W3 at *
  obtain ⟨-, u0, -, f0⟩ := id hx3
  go_upto_region 3 with fail
  have k4 := k3.setCell (p := ⟨w.heap.size, 1, none⟩) (by simp) (.int .i64 B)
  have hx4 := hx3.set1 B
  have hy4 := hy3.far (q := w.heap.size) (o := 1) (by simp) (.int .i64 B)
  clear f0 u0 k3 hx3 hy3
  generalize W3.setCell ⟨w.heap.size, 1, none⟩ (.int .i64 B) = W4 at *
  obtain ⟨c0, c1, -, -⟩ := id hx4
  obtain ⟨d0, d1, f0, f1⟩ := id hy4
  go_wp2_with fail
  exact bodyPost_ret (v := mx A B) (by simp [results, Tryz.results60, go_sem, *]) rfl ⟨rfl, (k4.setCell (by simp) _).setCell (by simp) _⟩

theorem mixOf_any (v : Value) (l : List Int) (w : World) (h : RdI w v l) (hl : l.length ≤ 1048576) :
    Calls Tryz.prog 40 #[v] w fun e w' => e = .returned (mx (mixL l).1 (mixL l).2) ∧ Kp w w' := by
  obtain ⟨A, c, rfl, h⟩ := h
  have HA := Lib.hid h
  clear h
  obtain ⟨M, hM⟩ : ∃ M, M = mixL l := ⟨_, rfl⟩
  have HM : Hid (mixP 7 ((l.length : Int) + 1) (l.drop 0 ++ [1, 1, 1]) = M) := Lib.hid hM.symm
  rw [← hM]
  clear hM
  have hst := MixBd.start hl
  generalize hn : l.length = n at *
  have HN := Lib.hid hn
  clear hn
  have e1 : IntKind.i64.wrap ((n : Int) + 1) = (n : Int) + 1 := IntWalk.i64_in _ (by omega)
  have hx : Bx (((w.alloc (.cells #[.int .i64 0, .int .i64 0] 73)).alloc (.cells #[.int .i64 7, .int .i64 (n + 1)] 73))) w.heap.size 0 0 := (Bx.new w 0 0 _).keep ((Kp.refl _).alloc _)
  have hy : Bx (((w.alloc (.cells #[.int .i64 0, .int .i64 0] 73)).alloc (.cells #[.int .i64 7, .int .i64 (n + 1)] 73))) (w.heap.size + 1) 7 (n + 1) := by
    have := Bx.new (w.alloc (.cells #[.int .i64 0, .int .i64 0] 73)) 7 (n + 1) 73
    simpa using this
  have hk : Kp w (((w.alloc (.cells #[.int .i64 0, .int .i64 0] 73)).alloc (.cells #[.int .i64 7, .int .i64 (n + 1)] 73))) := ((Kp.refl _).alloc _).alloc _
  go_enter Tryz.func40, Tryz.ntmps40
  go_wp2_with fail
  go_loopw [12] (fun i wr => ∃ k : Nat, k ≤ n ∧ i = .int .i64 k ∧ (∃ a b, MixBd a b ∧ Bx wr (w.heap.size + 1) a b ∧ Hid (mixP a b (l.drop k ++ [1, 1, 1]) = M)) ∧ Bx wr w.heap.size 0 0 ∧ Kp w wr) (fun i _ => n - (intOf i).toNat)
  case atStart => exact ⟨0, by omega, rfl, ⟨7, n + 1, hst, hy, HM⟩, hx, hk⟩
  case round =>
    clear hx hy hk HM hst
    obtain ⟨k, hk, rfl, ⟨a, b, hbd, hb, hE⟩, hr, kr⟩ := hrel
    by_cases hlt : k < n
    · have hlt' : (k : Int) < n := by omega
      obtain ⟨g, off, rfl, hc⟩ := HA.out (by omega)
      obtain ⟨x, hx⟩ : ∃ x, l[k]? = some x := ⟨l[k]'(by have := HN.out; omega), List.getElem?_eq_getElem _⟩
      have a0 := kr.cell (hc k x hx)
      have HE : Hid (mixP (mA a b x) (mB (mA a b x) b x) (l.drop (k + 1) ++ [1, 1, 1]) = M) := Lib.hid (by rw [← hE.out, mixP_drop hx])
      have HB := Lib.hid (MixBd.step a b x)
      have C := Lib.hid (fun w => with_any a b x w hbd)
      generalize mB (mA a b x) b x = B at *
      generalize mA a b x = A1 at *
      obtain ⟨c0, c1, f0, f1⟩ := id hb
      clear hc hx hE
      go_wp2_with fail
      refine (C.out _).mono ?_
      rintro e w1 ⟨rfl, k1⟩
      have hb1 := hb.keep k1
      have hr1 := hr.keep k1
      have kr1 := kr.trans k1
      have hz := kr1.size
      clear c0 c1 f0 f1 hb hr kr k1 a0
      obtain ⟨c0, c1, f0, f1⟩ := id hb1
      go_wp2_with fail
      go_roundw
      case rel => exact ⟨k + 1, by omega, by go_num, ⟨A1, B, HB.out, (hb1.set0 A1).set1 B, HE⟩, (hr1.far (by omega) _).far (by omega) _, (kr1.setCell (by simp) _).setCell (by simp) _⟩
      case measure => simp [intOf]; omega
    · obtain rfl : k = n := by omega
      have hd : l.drop k = [] := List.drop_of_length_le (by rw [HN.out]; omega)
      have HE : Hid (mixP a b ([1, 1, 1].drop 0) = M) := Lib.hid (by rw [← hE.out, hd]; rfl)
      clear hd
      clear hE
      go_wp2_with fail
      go_loopw [20] (fun i wz => ∃ j : Nat, j ≤ 3 ∧ i = .int .i64 j ∧ (∃ a b, MixBd a b ∧ Bx wz (w.heap.size + 1) a b ∧ Hid (mixP a b ([1, 1, 1].drop j) = M)) ∧ Bx wz w.heap.size 0 0 ∧ Kp w wz) (fun i _ => 3 - (intOf i).toNat)
      case atStart => exact ⟨0, by omega, rfl, ⟨a, b, hbd, hb, HE⟩, hr, kr⟩
      case round =>
        clear hb hr kr HE hbd
        obtain ⟨j, hj, rfl, ⟨a, b, hbd, hb, hE⟩, hr, kr⟩ := hrel
        by_cases hlt : j < 3
        · have hlt' : (j : Int) < 3 := by omega
          have HE : Hid (mixP (mA a b 1) (mB (mA a b 1) b 1) ([1, 1, 1].drop (j + 1)) = M) := Lib.hid (by
            rw [← hE.out]
            rcases (show j = 0 ∨ j = 1 ∨ j = 2 by omega) with rfl | rfl | rfl <;> rfl)
          have HB := Lib.hid (MixBd.step a b 1)
          have C := Lib.hid (fun w => with_any a b 1 w hbd)
          generalize mB (mA a b 1) b 1 = B at *
          generalize mA a b 1 = A1 at *
          obtain ⟨c0, c1, f0, f1⟩ := id hb
          clear hE
          go_wp2_with fail
          refine (C.out _).mono ?_
          rintro e w1 ⟨rfl, k1⟩
          have hb1 := hb.keep k1
          have hr1 := hr.keep k1
          have kr1 := kr.trans k1
          have hz := kr1.size
          clear c0 c1 f0 f1 hb hr kr k1
          obtain ⟨c0, c1, f0, f1⟩ := id hb1
          go_wp2_with fail
          go_roundw
          case rel => exact ⟨j + 1, by omega, by go_num, ⟨A1, B, HB.out, (hb1.set0 A1).set1 B, HE⟩, (hr1.far (by omega) _).far (by omega) _, (kr1.setCell (by simp) _).setCell (by simp) _⟩
          case measure => simp [intOf]; omega
        · obtain rfl : j = 3 := by omega
          have HE : Hid ((a, b) = M) := Lib.hid (by rw [← hE.out]; rfl)
          obtain ⟨c0, c1, -, -⟩ := id hb
          obtain ⟨d0, d1, f0, f1⟩ := id hr
          clear hE
          go_wp2_with fail
          have := HE.out
          subst this
          exact bodyPost_ret (v := mx a b) (by simp [results, Tryz.results40, go_sem, *]) rfl ⟨rfl, (kr.setCell (by simp) _).setCell (by simp) _⟩

end Go.Proofs.YtbohefollbmhkaaGreatDoor

/-
  The reference's mix, the number of a mix, dice and numbers below another: both sides are the plain ones, and nothing that was there is changed.
-/
namespace Go.Proofs.YtbohefollbmhkaaGreatDoor
open Go.RowKit

theorem shl31 (a : Int) (h0 : 0 ≤ a) (h1 : a ≤ 2147483647) : IntKind.i64.wrap (a * 2 ^ 31) = a * 2147483648 := by
  rw [show (2 : Int) ^ 31 = 2147483648 by decide]
  exact IntWalk.i64_in _ (by omega)

theorem number_any (a b : Int) (w : World) (a0 : 0 ≤ a) (a1 : a ≤ 2147483646) (b0 : 0 ≤ b) (b1 : b ≤ 2147483647) :
    Calls Tryz.prog 41 #[mx a b] w fun e w' => e = .returned (.int .i64 (hashN (a, b))) ∧ Kp w w' := by
  have e0 := shl31 a a0 (by omega)
  have e1 : IntKind.i64.wrap (a * 2147483648 + b) = a * 2147483648 + b := IntWalk.i64_in _ (by omega)
  go_enter Tryz.func41, Tryz.ntmps41
  go_wp2_with fail
  go_ret
  exact ⟨rfl, (Kp.refl _).alloc _⟩

theorem rd2 (w : World) (x y : Int) (T : TypeId) : RdI (w.alloc (.cells #[.int .i64 x, .int .i64 y] T)) (.slice (some ⟨w.heap.size, 0, none⟩) 2 2) [x, y] := by
  refine ⟨_, _, rfl, fun _ => ⟨w.heap.size, 0, rfl, fun i z hz => ?_⟩⟩
  rcases i with _ | _ | i
  · simp at hz
    subst hz
    simp [go_sem]
  · simp at hz
    subst hz
    simp [go_sem]
  · simp at hz
theorem rd3 (w : World) (x y z : Int) (T : TypeId) : RdI (w.alloc (.cells #[.int .i64 x, .int .i64 y, .int .i64 z] T)) (.slice (some ⟨w.heap.size, 0, none⟩) 3 3) [x, y, z] := by
  refine ⟨_, _, rfl, fun _ => ⟨w.heap.size, 0, rfl, fun i z hz => ?_⟩⟩
  rcases i with _ | _ | _ | i
  · simp at hz
    subst hz
    simp [go_sem]
  · simp at hz
    subst hz
    simp [go_sem]
  · simp at hz
    subst hz
    simp [go_sem]
  · simp at hz

def dieN (s i : Int) : Int := 1 + (mixL [s, i]).1 % 6
def belN (s i n : Int) : Int := (mixL [s, i, n]).1 % n
theorem dieN_bd (s i : Int) : 1 ≤ dieN s i ∧ dieN s i ≤ 6 := by
  unfold dieN
  have := emod_bd (n := (mixL [s, i]).1) (m := 6) (by omega)
  omega

theorem fieldMix (a b : Int) (w : World) : (Instr.field 73 (mx a b) 0).run Tryz.prog w = .ok (.int .i64 a) w := by kernel_rfl

theorem dMix_any (v : Value) (l : List Int) (w : World) (h : RdI w v l) (hl : l.length ≤ 1048576) :
    Calls Tryz.prog 62 #[v] w fun e w' => e = .returned (.tuple #[.int .i64 (mixL l).1, .int .i64 (mixL l).2]) ∧ w = w' := by
  obtain ⟨A, c, rfl, h⟩ := h
  have HA := Lib.hid h
  clear h
  obtain ⟨M, hM⟩ : ∃ M, M = mixL l := ⟨_, rfl⟩
  have HM : Hid (mixP 7 ((l.length : Int) + 1) ((l ++ [1, 1, 1]).drop 0) = M) := Lib.hid hM.symm
  rw [← hM]
  clear hM
  have hst := MixBd.start hl
  generalize hn : l.length = n at *
  have HN := Lib.hid hn
  clear hn
  have e1 : IntKind.i64.wrap ((n : Int) + 1) = (n : Int) + 1 := IntWalk.i64_in _ (by omega)
  have e3 : IntKind.i64.wrap ((n : Int) + 3) = (n : Int) + 3 := IntWalk.i64_in _ (by omega)
  go_enter Tryz.func62, Tryz.ntmps62
  go_wp2_with fail
  go_loop [4, 5, 6] (fun av bv i => ∃ (k : Nat) (a b : Int), k ≤ n + 3 ∧ av = .int .i64 a ∧ bv = .int .i64 b ∧ i = .int .i64 k ∧ MixBd a b ∧ Hid (mixP a b ((l ++ [1, 1, 1]).drop k) = M)) (fun _ _ i => n + 3 - (intOf i).toNat)
  case atStart => exact ⟨0, 7, n + 1, by omega, rfl, rfl, rfl, hst, HM⟩
  case round =>
    clear hst HM
    obtain ⟨k, a, b, hk, rfl, rfl, rfl, ⟨a0, a1, b0, b1⟩, hE⟩ := hrel
    by_cases hlt3 : k < n + 3
    · obtain ⟨x, hx⟩ : ∃ x, (l ++ [1, 1, 1])[k]? = some x := ⟨(l ++ [1, 1, 1])[k]'(by have := HN.out; simp; omega), List.getElem?_eq_getElem _⟩
      have HX := Lib.hid hx
      have HE : Hid (mixP (mA a b x) (mB (mA a b x) b x) ((l ++ [1, 1, 1]).drop (k + 1)) = M) := Lib.hid (by rw [← hE.out, drop_step hx]; rfl)
      have HB := Lib.hid (MixBd.step a b x)
      have r1 := emod_bd (n := x) (m := 2147483647) (by omega)
      have r2 := emod_bd (n := x) (m := 2147483629) (by omega)
      have ba := mA_bd a b x
      have q1 : (16807 * a + x % 2147483647 + b) % 2147483647 = mA a b x := rfl
      have q2 : (39373 * b + x % 2147483629 + mA a b x) % 2147483629 = mB (mA a b x) b x := rfl
      have bb := mB_bd (mA a b x) b x
      generalize mB (mA a b x) b x = B at *
      generalize mA a b x = A1 at *
      have C1 := Lib.hid (fun w => dMod_any x 2147483647 w (by omega) (by omega))
      have C2 := Lib.hid (fun w => dMod_any x 2147483629 w (by omega) (by omega))
      generalize x % 2147483647 = X1 at *
      generalize x % 2147483629 = X2 at *
      have m1 : IntKind.i64.wrap (16807 * a) = 16807 * a := IntWalk.i64_in _ (by omega)
      have m2 : IntKind.i64.wrap (16807 * a + X1) = 16807 * a + X1 := IntWalk.i64_in _ (by omega)
      have m3 : IntKind.i64.wrap (16807 * a + X1 + b) = 16807 * a + X1 + b := IntWalk.i64_in _ (by omega)
      have m4 : IntKind.i64.wrap (39373 * b) = 39373 * b := IntWalk.i64_in _ (by omega)
      have m5 : IntKind.i64.wrap (39373 * b + X2) = 39373 * b + X2 := IntWalk.i64_in _ (by omega)
      have m6 : IntKind.i64.wrap (39373 * b + X2 + A1) = 39373 * b + X2 + A1 := IntWalk.i64_in _ (by omega)
      have hlt3' : (k : Int) < n + 3 := by omega
      clear hE hx
      by_cases hlt : k < n
      · have hlt' : (k : Int) < n := by omega
        obtain ⟨g, off, rfl, hc⟩ := HA.out (by omega)
        have a9 := hc k x (by have := HX.out; rwa [List.getElem?_append_left (by rw [HN.out]; omega)] at this)
        clear hc
        go_wp2_with fail
        refine (C1.out _).mono ?_
        rintro e w1 ⟨rfl, rfl⟩
        go_wp2_with fail
        refine (C2.out _).mono ?_
        rintro e w1 ⟨rfl, rfl⟩
        go_wp2_with fail
        go_round
        case rel => exact ⟨k + 1, A1, B, by omega, rfl, congrArg _ q2, by go_num, HB.out, HE⟩
        case measure => simp [intOf]; omega
      · obtain rfl : x = 1 := by
          have h := HX.out
          rw [List.getElem?_append_right (by rw [HN.out]; omega), HN.out] at h
          rcases (show k - n = 0 ∨ k - n = 1 ∨ k - n = 2 by omega) with e | e | e <;> rw [e] at h <;> simpa using h.symm
        go_wp2_with fail
        refine (C1.out _).mono ?_
        rintro e w1 ⟨rfl, rfl⟩
        go_wp2_with fail
        refine (C2.out _).mono ?_
        rintro e w1 ⟨rfl, rfl⟩
        go_wp2_with fail
        go_round
        case rel => exact ⟨k + 1, A1, B, by omega, rfl, congrArg _ q2, by go_num, HB.out, HE⟩
        case measure => simp [intOf]; omega
    · obtain rfl : k = n + 3 := by omega
      have hd : (l ++ [1, 1, 1]).drop (n + 3) = [] := List.drop_of_length_le (by simp; rw [HN.out]; omega)
      have HE : Hid ((a, b) = M) := Lib.hid (by rw [← hE.out, hd]; rfl)
      clear hE hd
      go_wp2_with fail
      go_ret2
      have := HE.out
      subst this
      exact ⟨rfl, rfl⟩

theorem dHash_any (v : Value) (l : List Int) (w : World) (h : RdI w v l) (hl : l.length ≤ 1048576) :
    Calls Tryz.prog 53 #[v] w fun e w' => e = .returned (.int .i64 (hashN (mixL l))) ∧ w = w' := by
  have C := Lib.hid (dMix_any v l w h hl)
  have hbd := mixL_bd l
  have hE := Lib.hid (show (mixL l).1 * 2147483648 + (mixL l).2 = hashN (mixL l) from rfl)
  generalize hashN (mixL l) = X at *
  generalize (mixL l).1 = a at *
  generalize (mixL l).2 = b at *
  have e0 := shl31 a (by omega) (by omega)
  have e1 : IntKind.i64.wrap (a * 2147483648 + b) = a * 2147483648 + b := IntWalk.i64_in _ (by omega)
  clear h
  go_enter Tryz.func53, Tryz.ntmps53
  go_wp2_with fail
  refine C.out.mono ?_
  rintro e w1 ⟨rfl, rfl⟩
  go_wp2_with fail
  go_ret
  exact ⟨ret_int hE.out, rfl⟩

theorem belN_bd (s i n : Int) (hn : 1 ≤ n) : 0 ≤ belN s i n ∧ belN s i n < n := emod_bd (by omega)

end Go.Proofs.YtbohefollbmhkaaGreatDoor

/-
  A store into a list of integers that the call owns; a new list of zeros.
-/
namespace Go.Proofs.YtbohefollbmhkaaGreatDoor
open Go.RowKit

theorem cellsI_set (l : List Int) (k : Nat) (x : Int) : cellsI (l.set k x) = (cellsI l).set k (.int .i64 x) := by simp [cellsI, List.map_set]
theorem cellsI_zero (n : Nat) : (madeCells #[.int .i64 0] n).toList = cellsI (List.replicate n 0) := by
  apply List.ext_getElem?
  intro i
  by_cases h : i < n
  · have : i % 1 = 0 := Nat.mod_one i
    simp [madeCells, cellsI, h, this]
  · simp [madeCells, cellsI, h]
/-- The cell at k, that it may be written, and what is owned when it has been. -/
theorem OwnI.put {w : World} {base n g cap : Nat} {l : List Int} (h : OwnI w base (.slice (some ⟨g, 0, none⟩) n cap) l) (hn : l.length = n) {k : Nat} (hk : k < n) (x : Int) :
    (∃ u, w.cell? ⟨g, k, none⟩ = some u) ∧ w.frozen? ⟨g, k, none⟩ = false ∧ OwnI (w.setCell ⟨g, k, none⟩ (.int .i64 x)) base (.slice (some ⟨g, 0, none⟩) n cap) (l.set k x) := by
  subst hn
  have ho : w.ownsRow base 3 1 (.slice (some ⟨g, 0, none⟩) l.length cap) l.length (cellsI l) := h
  have hlen : (cellsI l).length = l.length * 1 := ho.1
  refine ⟨⟨_, (ho.cellAt k (by omega)).trans (List.getElem?_eq_getElem (by omega))⟩, ho.frozenAt k, ?_⟩
  have o1 := (ho.stored k (.int .i64 x)).1
  unfold OwnI
  rw [cellsI_set, List.length_set]
  exact o1

theorem ownI_zero (w : World) (n : Nat) (hn : n ≤ 1048576) : OwnI (w.alloc (.cells (madeCells #[.int .i64 0] n) 3)) w.heap.size (.slice (some ⟨w.heap.size, 0, none⟩) n n) (List.replicate n 0) := by
  have own0 : (w.alloc (.cells (madeCells #[.int .i64 0] n) 3)).ownsRow w.heap.size 3 1 (.slice (some ⟨w.heap.size, 0, none⟩) n n) n (madeCells #[.int .i64 0] n).toList :=
    World.ownsRow_lit w _ n (Nat.le_refl _) (by simp only [maxLen]; omega) (by rw [size_madeCells, Nat.mul_one])
  rw [cellsI_zero] at own0
  unfold OwnI
  rw [List.length_replicate]
  exact own0

end Go.Proofs.YtbohefollbmhkaaGreatDoor

/-
  Dice and numbers below another of a seed: both sides. Nothing that was there is changed.
-/
namespace Go.Proofs.YtbohefollbmhkaaGreatDoor
open Go.RowKit

def seedB (s : Int) : Bool := spB 0 4611686016279904236 s
def numB (i : Int) : Bool := spB 0 1000000 i
def dieB (s i : Int) : Bool := seedB s && numB i
def dicB (s i n : Int) : Bool := seedB s && (numB i && (spB 0 8 n && decide (i + n ≤ 1000001)))
def belB (s i n : Int) : Bool := seedB s && (numB i && spB 1 1000000 n)
theorem sp_bd {lo hi n : Int} (h : spB lo hi n = true) : lo ≤ n ∧ n ≤ hi := by simpa [spB] using h
def diceL (s i : Int) : Nat → List Int
  | 0 => []
  | n + 1 => diceL s i n ++ [dieN s (i + n)]
theorem diceL_len (s i : Int) : ∀ n, (diceL s i n).length = n
  | 0 => rfl
  | n + 1 => by rw [diceL, List.length_append, diceL_len s i n]; rfl
theorem diceL_get (s i : Int) : ∀ n k, k < n → (diceL s i n)[k]? = some (dieN s (i + k))
  | 0, k, h => absurd h (by omega)
  | n + 1, k, h => by
    rw [diceL]
    by_cases hk : k < n
    · rw [List.getElem?_append_left (by rw [diceL_len]; omega), diceL_get s i n k hk]
    · obtain rfl : k = n := by omega
      rw [List.getElem?_append_right (by rw [diceL_len]; omega), diceL_len]
      simp
theorem mkInts0 (n : Nat) (hn : n ≤ 1048576) (w : World) :
    (Instr.makeSlice 43 (.int .i64 0) (.int .i64 (n : Int))).run Tryz.prog w = .ok (.slice (some ⟨w.heap.size, 0, none⟩) 0 n) (w.alloc (.cells (madeCells #[.int .i64 0] n) 3)) := by
  obtain ⟨i, hi, hz, hs, hb⟩ := info_parts infoInt
  have hr := run_make (P := Tryz.prog) w 43 3 i (.int .i64 0) Tryz.underlying43 hi hz .i64 .i64 0 (n : Int) (Int.le_refl _) (by omega) (by rw [hb]; omega) (by omega)
  rw [hs, Int.toNat_natCast, Nat.mul_one] at hr
  exact hr
theorem ownI_made0 (w : World) (base n : Nat) (hb : base ≤ w.heap.size) (hn : n ≤ 1048576) : OwnI (w.alloc (.cells (madeCells #[.int .i64 0] n) 3)) base (.slice (some ⟨w.heap.size, 0, none⟩) 0 n) [] := by
  unfold OwnI
  exact World.ownsRow_made w _ n hb (by simp only [maxLen]; omega) (by rw [size_madeCells, Nat.mul_one])

end Go.Proofs.YtbohefollbmhkaaGreatDoor
