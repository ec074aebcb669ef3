/-
  The reference's mix, the number of a mix, dice and numbers below another: both sides are the plain ones, and nothing that was there is changed.
-/
import Derived.Test.YtnobcpgckdgheaaDoorDiI
namespace Go.Proofs.YtnobcpgckdgheaaDoor
open Go.RowKit

theorem shl31 (a : Int) (h0 : 0 ≤ a) (h1 : a ≤ 2147483647) : IntKind.i64.wrap (a * 2 ^ 31) = a * 2147483648 := by
  rw [show (2 : Int) ^ 31 = 2147483648 by decide]
  exact IntWalk.i64_in _ (by omega)

theorem number_any (a b : Int) (w : World) (a0 : 0 ≤ a) (a1 : a ≤ 2147483646) (b0 : 0 ≤ b) (b1 : b ≤ 2147483647) :
    Calls Tryd.prog 58 #[mx a b] w fun e w' => e = .returned (.int .i64 (hashN (a, b))) ∧ Kp w w' := by
  have e0 := shl31 a a0 (by omega)
  have e1 : IntKind.i64.wrap (a * 2147483648 + b) = a * 2147483648 + b := IntWalk.i64_in _ (by omega)
  go_enter Tryd.func58, Tryd.ntmps58
  go_wp2_with fail
  go_ret
  exact ⟨rfl, (Kp.refl _).alloc _⟩

theorem rd2 (w : World) (x y : Int) (T : TypeId) : RdI (w.alloc (.cells #[.int .i64 x, .int .i64 y] T)) (.slice (some ⟨w.heap.size, 0, none⟩) 2 2) [x, y] := by
  refine ⟨_, _, rfl, fun _ => ⟨w.heap.size, 0, rfl, fun i z hz => ?_⟩⟩
  rcases i with _ | _ | i
  · simp at hz
    subst hz
    simp [go_sem]
  · simp at hz
    subst hz
    simp [go_sem]
  · simp at hz
theorem rd3 (w : World) (x y z : Int) (T : TypeId) : RdI (w.alloc (.cells #[.int .i64 x, .int .i64 y, .int .i64 z] T)) (.slice (some ⟨w.heap.size, 0, none⟩) 3 3) [x, y, z] := by
  refine ⟨_, _, rfl, fun _ => ⟨w.heap.size, 0, rfl, fun i z hz => ?_⟩⟩
  rcases i with _ | _ | _ | i
  · simp at hz
    subst hz
    simp [go_sem]
  · simp at hz
    subst hz
    simp [go_sem]
  · simp at hz
    subst hz
    simp [go_sem]
  · simp at hz

def dieN (s i : Int) : Int := 1 + (mixL [s, i]).1 % 6
def belN (s i n : Int) : Int := (mixL [s, i, n]).1 % n
theorem dieN_bd (s i : Int) : 1 ≤ dieN s i ∧ dieN s i ≤ 6 := by
  unfold dieN
  have := emod_bd (n := (mixL [s, i]).1) (m := 6) (by omega)
  omega

theorem fieldMix (a b : Int) (w : World) : (Instr.field 83 (mx a b) 0).run Tryd.prog w = .ok (.int .i64 a) w := by kernel_rfl

theorem dMix_any (v : Value) (l : List Int) (w : World) (h : RdI w v l) (hl : l.length ≤ 1048576) :
    Calls Tryd.prog 64 #[v] w fun e w' => e = .returned (.tuple #[.int .i64 (mixL l).1, .int .i64 (mixL l).2]) ∧ w = w' := by
  obtain ⟨A, c, rfl, h⟩ := h
  have HA := Lib.hid h
  clear h
  obtain ⟨M, hM⟩ : ∃ M, M = mixL l := ⟨_, rfl⟩
  have HM : Hid (mixP 7 ((l.length : Int) + 1) ((l ++ [1, 1, 1]).drop 0) = M) := Lib.hid hM.symm
  rw [← hM]
  clear hM
  have hst := MixBd.start hl
  generalize hn : l.length = n at *
  have HN := Lib.hid hn
  clear hn
  have e1 : IntKind.i64.wrap ((n : Int) + 1) = (n : Int) + 1 := IntWalk.i64_in _ (by omega)
  have e3 : IntKind.i64.wrap ((n : Int) + 3) = (n : Int) + 3 := IntWalk.i64_in _ (by omega)
  go_enter Tryd.func64, Tryd.ntmps64
  go_wp2_with fail
  go_loop [4, 5, 6] (fun av bv i => ∃ (k : Nat) (a b : Int), k ≤ n + 3 ∧ av = .int .i64 a ∧ bv = .int .i64 b ∧ i = .int .i64 k ∧ MixBd a b ∧ Hid (mixP a b ((l ++ [1, 1, 1]).drop k) = M)) (fun _ _ i => n + 3 - (intOf i).toNat)
  case atStart => exact ⟨0, 7, n + 1, by omega, rfl, rfl, rfl, hst, HM⟩
  case round =>
    clear hst HM
    obtain ⟨k, a, b, hk, rfl, rfl, rfl, ⟨a0, a1, b0, b1⟩, hE⟩ := hrel
    by_cases hlt3 : k < n + 3
    · obtain ⟨x, hx⟩ : ∃ x, (l ++ [1, 1, 1])[k]? = some x := ⟨(l ++ [1, 1, 1])[k]'(by have := HN.out; simp; omega), List.getElem?_eq_getElem _⟩
      have HX := Lib.hid hx
      have HE : Hid (mixP (mA a b x) (mB (mA a b x) b x) ((l ++ [1, 1, 1]).drop (k + 1)) = M) := Lib.hid (by rw [← hE.out, drop_step hx]; rfl)
      have HB := Lib.hid (MixBd.step a b x)
      have r1 := emod_bd (n := x) (m := 2147483647) (by omega)
      have r2 := emod_bd (n := x) (m := 2147483629) (by omega)
      have ba := mA_bd a b x
      have q1 : (16807 * a + x % 2147483647 + b) % 2147483647 = mA a b x := rfl
      have q2 : (39373 * b + x % 2147483629 + mA a b x) % 2147483629 = mB (mA a b x) b x := rfl
      have bb := mB_bd (mA a b x) b x
      generalize mB (mA a b x) b x = B at *
      generalize mA a b x = A1 at *
      have C1 := Lib.hid (fun w => dMod_any x 2147483647 w (by omega) (by omega))
      have C2 := Lib.hid (fun w => dMod_any x 2147483629 w (by omega) (by omega))
      generalize x % 2147483647 = X1 at *
      generalize x % 2147483629 = X2 at *
      have m1 : IntKind.i64.wrap (16807 * a) = 16807 * a := IntWalk.i64_in _ (by omega)
      have m2 : IntKind.i64.wrap (16807 * a + X1) = 16807 * a + X1 := IntWalk.i64_in _ (by omega)
      have m3 : IntKind.i64.wrap (16807 * a + X1 + b) = 16807 * a + X1 + b := IntWalk.i64_in _ (by omega)
      have m4 : IntKind.i64.wrap (39373 * b) = 39373 * b := IntWalk.i64_in _ (by omega)
      have m5 : IntKind.i64.wrap (39373 * b + X2) = 39373 * b + X2 := IntWalk.i64_in _ (by omega)
      have m6 : IntKind.i64.wrap (39373 * b + X2 + A1) = 39373 * b + X2 + A1 := IntWalk.i64_in _ (by omega)
      have hlt3' : (k : Int) < n + 3 := by omega
      clear hE hx
      by_cases hlt : k < n
      · have hlt' : (k : Int) < n := by omega
        obtain ⟨g, off, rfl, hc⟩ := HA.out (by omega)
        have a9 := hc k x (by have := HX.out; rwa [List.getElem?_append_left (by rw [HN.out]; omega)] at this)
        clear hc
        go_wp2_with fail
        refine (C1.out _).mono ?_
        rintro e w1 ⟨rfl, rfl⟩
        go_wp2_with fail
        refine (C2.out _).mono ?_
        rintro e w1 ⟨rfl, rfl⟩
        go_wp2_with fail
        go_round
        case rel => exact ⟨k + 1, A1, B, by omega, rfl, congrArg _ q2, by go_num, HB.out, HE⟩
        case measure => simp [intOf]; omega
      · obtain rfl : x = 1 := by
          have h := HX.out
          rw [List.getElem?_append_right (by rw [HN.out]; omega), HN.out] at h
          rcases (show k - n = 0 ∨ k - n = 1 ∨ k - n = 2 by omega) with e | e | e <;> rw [e] at h <;> simpa using h.symm
        go_wp2_with fail
        refine (C1.out _).mono ?_
        rintro e w1 ⟨rfl, rfl⟩
        go_wp2_with fail
        refine (C2.out _).mono ?_
        rintro e w1 ⟨rfl, rfl⟩
        go_wp2_with fail
        go_round
        case rel => exact ⟨k + 1, A1, B, by omega, rfl, congrArg _ q2, by go_num, HB.out, HE⟩
        case measure => simp [intOf]; omega
    · obtain rfl : k = n + 3 := by omega
      have hd : (l ++ [1, 1, 1]).drop (n + 3) = [] := List.drop_of_length_le (by simp; rw [HN.out]; omega)
      have HE : Hid ((a, b) = M) := Lib.hid (by rw [← hE.out, hd]; rfl)
      clear hE hd
      go_wp2_with fail
      go_ret2
      have := HE.out
      subst this
      exact ⟨rfl, rfl⟩

theorem dHash_any (v : Value) (l : List Int) (w : World) (h : RdI w v l) (hl : l.length ≤ 1048576) :
    Calls Tryd.prog 60 #[v] w fun e w' => e = .returned (.int .i64 (hashN (mixL l))) ∧ w = w' := by
  have C := Lib.hid (dMix_any v l w h hl)
  have hbd := mixL_bd l
  have hE := Lib.hid (show (mixL l).1 * 2147483648 + (mixL l).2 = hashN (mixL l) from rfl)
  generalize hashN (mixL l) = X at *
  generalize (mixL l).1 = a at *
  generalize (mixL l).2 = b at *
  have e0 := shl31 a (by omega) (by omega)
  have e1 : IntKind.i64.wrap (a * 2147483648 + b) = a * 2147483648 + b := IntWalk.i64_in _ (by omega)
  clear h
  go_enter Tryd.func60, Tryd.ntmps60
  go_wp2_with fail
  refine C.out.mono ?_
  rintro e w1 ⟨rfl, rfl⟩
  go_wp2_with fail
  go_ret
  exact ⟨ret_int hE.out, rfl⟩

theorem belN_bd (s i n : Int) (hn : 1 ≤ n) : 0 ≤ belN s i n ∧ belN s i n < n := emod_bd (by omega)

end Go.Proofs.YtnobcpgckdgheaaDoor
