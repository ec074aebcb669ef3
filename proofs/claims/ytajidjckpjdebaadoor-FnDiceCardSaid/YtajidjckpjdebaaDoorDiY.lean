/-
  How often each face occurs: both sides. Nothing that was there is changed.
-/
import Derived.Test.YtajidjckpjdebaaDoorDiW
namespace Go.Proofs.YtajidjckpjdebaaDoor
open Go.RowKit

def facB (s n : Int) : Bool := seedB s && spB 0 600 n
def facL (s : Int) : Nat → List Int
  | 0 => List.replicate 6 0
  | k + 1 => (facL s k).set (dieN s k - 1).toNat (getI (facL s k) (dieN s k - 1).toNat + 1)
theorem facL_len (s : Int) : ∀ k, (facL s k).length = 6
  | 0 => by simp [facL]
  | k + 1 => by rw [facL, List.length_set, facL_len s k]
theorem facL_bd (s : Int) : ∀ k : Nat, NB (k : Int) (facL s k)
  | 0 => by
    intro j x hx
    rw [facL, List.getElem?_replicate] at hx
    split at hx
    · obtain rfl := Option.some.inj hx
      simp
    · cases hx
  | k + 1 => by
    have ih := facL_bd s k
    have hg := ih.get (by omega) (dieN s k - 1).toNat
    intro j y hy
    rw [facL, List.getElem?_set] at hy
    split at hy
    · split at hy
      · obtain rfl := Option.some.inj hy
        omega
      · cases hy
    · have := ih j y hy
      omega

set_option maxRecDepth 100000 in
set_option maxHeartbeats 4000000 in
theorem facesOfP_any (s n : Int) (w : World) (hg0 : SpanAt w 0 0 4611686016279904236) (hg1 : SpanAt w 5 0 600) :
    Calls Tryd.prog 17 #[.int .i64 s, .int .i64 n] w fun e w' => ListPostI (facB s n) (facL s n.toNat) w e w' := by
  have C0 := Lib.hid (fun w => has_any 0 4611686016279904236 s w)
  have C1 := Lib.hid (fun w => has_any 0 600 n w)
  cases h0 : spB 0 4611686016279904236 s
  · rw [h0] at C0
    have hO : facB s n = false := by simp [facB, seedB, h0]
    rw [hO]
    go_enter Tryd.func17, Tryd.ntmps17
    obtain ⟨b0, c0⟩ := id hg0
    go_wp2_with fail
    refine (C0.out _).mono ?_
    rintro e1 w1 ⟨rfl, k1⟩
    have K1 := k1
    go_wp2_with fail
    go_ret2
    exact ListPostI.no K1
  · rw [h0] at C0
    cases h1 : spB 0 600 n
    · rw [h1] at C1
      have hO : facB s n = false := by simp [facB, seedB, h0, h1]
      rw [hO]
      go_enter Tryd.func17, Tryd.ntmps17
      obtain ⟨b0, c0⟩ := id hg0
      go_wp2_with fail
      refine (C0.out _).mono ?_
      rintro e1 w1 ⟨rfl, k1⟩
      have K1 := k1
      obtain ⟨b1, c1⟩ := K1.two hg1
      go_wp2_with fail
      refine (C1.out _).mono ?_
      rintro e2 w2 ⟨rfl, k2⟩
      have K2 := K1.trans k2
      go_wp2_with fail
      go_ret2
      exact ListPostI.no K2
    · rw [h1] at C1
      have hO : facB s n = true := by simp [facB, seedB, h0, h1]
      rw [hO]
      clear hO
      have hn := sp_bd h1
      obtain ⟨N, rfl⟩ : ∃ N : Nat, n = N := ⟨n.toNat, by omega⟩
      rw [Int.toNat_natCast]
      have CD := Lib.hid (fun w => diceOf_any s 0 N w (by omega) (by omega) (by omega))
      have hget := Lib.hid (diceL_get s 0 N)
      have HLN := Lib.hid (diceL_len s 0 N)
      generalize diceL s 0 N = DL at *
      go_enter Tryd.func17, Tryd.ntmps17
      obtain ⟨b0, c0⟩ := id hg0
      go_wp2_with fail
      refine (C0.out _).mono ?_
      rintro e1 w1 ⟨rfl, k1⟩
      have K1 := k1
      obtain ⟨b1, c1⟩ := K1.two hg1
      go_wp2_with fail
      refine (C1.out _).mono ?_
      rintro e2 w2 ⟨rfl, k2⟩
      have K2 := K1.trans k2
      have hmk : (Instr.makeSlice 26 (.int .i64 6) (.int .i64 6)).run Tryd.prog w2 = .ok (.slice (some ⟨w2.heap.size, 0, none⟩) 6 6) (w2.alloc (.cells (madeCells #[.int .i64 0] 6) 3)) := mkInts 6 (by omega) w2
      have HM : Hid (OwnI (w2.alloc (.cells (madeCells #[.int .i64 0] 6) 3)) w2.heap.size (.slice (some ⟨w2.heap.size, 0, none⟩) 6 6) (facL s 0)) := Lib.hid (ownI_zero w2 6 (by omega))
      have KM : Kp w2 (w2.alloc (.cells (madeCells #[.int .i64 0] 6) 3)) := (Kp.refl _).alloc _
      have hz3 : (w2.alloc (.cells (madeCells #[.int .i64 0] 6) 3)).heap.size = w2.heap.size + 1 := by simp
      go_upto_region 4 with fail
      clear hmk
      generalize w2.alloc (.cells (madeCells #[.int .i64 0] 6) 3) = W3 at *
      go_wp2_with fail
      refine (CD.out _).mono ?_
      rintro e9 w9 ⟨v9, rfl, o9, k9⟩
      obtain ⟨A9, c9, rfl, hA⟩ := o9.rd
      have HM9 := Lib.hid (HM.out.keep k9)
      have K9 := KM.trans k9
      rw [HLN.out] at hA o9 ⊢
      have HD : Hid (OwnI w9 W3.heap.size (.slice A9 N c9) DL) := Lib.hid o9
      clear hA o9 HM KM
      go_wp2_with fail
      go_loopw [24] (fun iv wr => ∃ k : Nat, k ≤ N ∧ iv = .int .i64 k ∧ Hid (OwnI wr w2.heap.size (.slice (some ⟨w2.heap.size, 0, none⟩) 6 6) (facL s k)) ∧ Hid (OwnI wr W3.heap.size (.slice A9 N c9) DL) ∧ Kp w2 wr) (fun iv _ => N - (intOf iv).toNat)
      case atStart => exact ⟨0, by omega, rfl, HM9, HD, K9⟩
      case round =>
        clear HM9 K9 HD
        obtain ⟨k, hk, rfl, hP, HD, k2r⟩ := hrel
        by_cases hlt : k < N
        · have hlt' : (k : Int) < N := by omega
          obtain ⟨A8, c8, e8, hA⟩ := HD.out.rd
          simp only [Value.slice.injEq] at e8
          obtain ⟨rfl, -, rfl⟩ := e8
          obtain ⟨g, off, rfl, hc⟩ := hA (by rw [HLN.out]; omega)
          have hd0 := hget.out k hlt
          rw [Int.zero_add] at hd0
          have a0 := hc k _ hd0
          have hne := HD.out.not (g := w2.heap.size) (by omega)
          clear hc hd0 hA
          have hd := dieN_bd s (k : Int)
          have HS := Lib.hid (show facL s (k + 1) = (facL s k).set (dieN s k - 1).toNat (getI (facL s k) (dieN s k - 1).toNat + 1) from rfl)
          have hln := facL_len s k
          have hNB := facL_bd s k
          generalize dieN s (k : Int) = D at *
          obtain ⟨J, hJ⟩ : ∃ J : Nat, J = (D - 1).toNat := ⟨_, rfl⟩
          rw [← hJ] at HS
          have eJ : IntKind.i64.wrap (D - 1) = (J : Int) := by rw [IntWalk.i64_in _ (by omega)]; omega
          have hJ6 : J < 6 := by omega
          have hJ6' : (J : Int) < 6 := by omega
          have hy := hNB.get (by omega) J
          generalize facL s k = L at *
          generalize hG : getI L J = y at *
          have b0 := hP.out.at (k := J) (by omega)
          rw [hG] at b0
          have ey : IntKind.i64.wrap (y + 1) = y + 1 := IntWalk.i64_in _ (by omega)
          obtain ⟨⟨u9, a9⟩, f9, q9⟩ := hP.out.put hln hJ6 (y + 1)
          have Q9 := Lib.hid q9
          clear q9 hP hln hNB hG hJ
          go_wp2_with fail
          go_roundw
          case rel => exact ⟨k + 1, by omega, by go_num, Lib.hid (by rw [HS.out]; exact Q9.out), Lib.hid (HD.out.far hne _), k2r.setCell (by simp) _⟩
          case measure => simp [intOf]; omega
        · obtain rfl : k = N := by omega
          go_wp2_with fail
          go_ret2
          have hz := K2.size
          exact ⟨_, rfl, hP.out.base hz, K2.trans k2r⟩

set_option maxRecDepth 100000 in
set_option maxHeartbeats 4000000 in
theorem facesOfS_any (s n : Int) (w : World) :
    Calls Tryd.prog 18 #[.int .i64 s, .int .i64 n] w fun e w' => ListPostI (facB s n) (facL s n.toNat) w e w' := by
  have C0 := Lib.hid (fun w => dSeed_any s w)
  have C1 := Lib.hid (fun w => l1In_sp n 0 600 w)
  cases h0 : seedB s
  · rw [h0] at C0
    have hO : facB s n = false := by simp [facB, h0]
    rw [hO]
    go_enter Tryd.func18, Tryd.ntmps18
    go_wp2_with fail
    refine (C0.out _).mono ?_
    rintro e1 w1 ⟨rfl, rfl⟩
    go_wp2_with fail
    go_ret2
    exact ListPostI.no (Kp.refl _)
  · rw [h0] at C0
    cases h1 : spB 0 600 n
    · rw [h1] at C1
      have hO : facB s n = false := by simp [facB, h0, h1]
      rw [hO]
      go_enter Tryd.func18, Tryd.ntmps18
      go_wp2_with fail
      refine (C0.out _).mono ?_
      rintro e1 w1 ⟨rfl, rfl⟩
      go_wp2_with fail
      refine (C1.out _).mono ?_
      rintro e2 w2 ⟨rfl, rfl⟩
      go_wp2_with fail
      go_ret2
      exact ListPostI.no (Kp.refl _)
    · rw [h1] at C1
      have hO : facB s n = true := by simp [facB, h0, h1]
      rw [hO]
      clear hO
      have hn := sp_bd h1
      obtain ⟨N, rfl⟩ : ∃ N : Nat, n = N := ⟨n.toNat, by omega⟩
      rw [Int.toNat_natCast]
      have CD := Lib.hid (fun x w => dDie_any s x w)
      have hmk : (Instr.makeSlice 26 (.int .i64 6) (.int .i64 6)).run Tryd.prog w = .ok (.slice (some ⟨w.heap.size, 0, none⟩) 6 6) (w.alloc (.cells (madeCells #[.int .i64 0] 6) 3)) := mkInts 6 (by omega) w
      have HM : Hid (OwnI (w.alloc (.cells (madeCells #[.int .i64 0] 6) 3)) w.heap.size (.slice (some ⟨w.heap.size, 0, none⟩) 6 6) (facL s 0)) := Lib.hid (ownI_zero w 6 (by omega))
      have KM : Kp w (w.alloc (.cells (madeCells #[.int .i64 0] 6) 3)) := (Kp.refl _).alloc _
      go_enter Tryd.func18, Tryd.ntmps18
      go_wp2_with fail
      refine (C0.out _).mono ?_
      rintro e1 w1 ⟨rfl, rfl⟩
      go_wp2_with fail
      refine (C1.out _).mono ?_
      rintro e2 w2 ⟨rfl, rfl⟩
      go_upto_region 4 with fail
      clear hmk
      generalize w.alloc (.cells (madeCells #[.int .i64 0] 6) 3) = W3 at *
      go_wp2_with fail
      go_loopw [7] (fun iv wr => ∃ k : Nat, k ≤ N ∧ iv = .int .i64 k ∧ Hid (OwnI wr w.heap.size (.slice (some ⟨w.heap.size, 0, none⟩) 6 6) (facL s k)) ∧ Kp w wr) (fun iv _ => N - (intOf iv).toNat)
      case atStart => exact ⟨0, by omega, rfl, HM, KM⟩
      case round =>
        clear HM KM
        obtain ⟨k, hk, rfl, hP, k2r⟩ := hrel
        by_cases hlt : k < N
        · have hlt' : (k : Int) < N := by omega
          have CE := Lib.hid (CD.out (k : Int))
          have hd := dieN_bd s (k : Int)
          have HS := Lib.hid (show facL s (k + 1) = (facL s k).set (dieN s k - 1).toNat (getI (facL s k) (dieN s k - 1).toNat + 1) from rfl)
          have hln := facL_len s k
          have hNB := facL_bd s k
          generalize dieN s (k : Int) = D at *
          obtain ⟨J, hJ⟩ : ∃ J : Nat, J = (D - 1).toNat := ⟨_, rfl⟩
          rw [← hJ] at HS
          have eJ : IntKind.i64.wrap (D - 1) = (J : Int) := by rw [IntWalk.i64_in _ (by omega)]; omega
          have hJ6 : J < 6 := by omega
          have hJ6' : (J : Int) < 6 := by omega
          have hy := hNB.get (by omega) J
          generalize facL s k = L at *
          generalize hG : getI L J = y at *
          go_wp2_with fail
          refine (CE.out _).mono ?_
          rintro e8 w8 ⟨rfl, k8⟩
          have hP8 := Lib.hid (hP.out.keep k8)
          have K8 := k2r.trans k8
          have hz8 := K8.size
          clear hP k8 k2r
          have b0 := hP8.out.at (k := J) (by omega)
          rw [hG] at b0
          have ey : IntKind.i64.wrap (y + 1) = y + 1 := IntWalk.i64_in _ (by omega)
          obtain ⟨⟨u9, a9⟩, f9, q9⟩ := hP8.out.put hln hJ6 (y + 1)
          have Q9 := Lib.hid q9
          clear q9 hP8 hln hNB hG hJ
          go_wp2_with fail
          go_roundw
          case rel => exact ⟨k + 1, by omega, by go_num, Lib.hid (by rw [HS.out]; exact Q9.out), K8.setCell (by simp) _⟩
          case measure => simp [intOf]; omega
        · obtain rfl : k = N := by omega
          go_wp2_with fail
          go_ret2
          exact ⟨_, rfl, hP.out, k2r⟩

end Go.Proofs.YtajidjckpjdebaaDoor
