/-
  Counts of lists of faces by their greatest one: both sides. Nothing that was there is changed.
-/
import Derived.Test.YtmhkjcgdjoeldaaDoorDiL
namespace Go.Proofs.YtmhkjcgdjoeldaaDoor
open Go.RowKit

def pw (x : Int) : Nat → Int
  | 0 => 1
  | k + 1 => pw x k * x
theorem pw_bd {x : Int} {k : Nat} (h0 : 0 ≤ x) (h1 : x ≤ 6) (hk : k ≤ 8) : 0 ≤ pw x k ∧ pw x k ≤ 1679616 := by
  have H : ∀ (a : Fin 7) (b : Fin 9), 0 ≤ pw (a.val : Int) b.val ∧ pw (a.val : Int) b.val ≤ 1679616 := by decide +kernel
  have h := H ⟨x.toNat, by omega⟩ ⟨k, by omega⟩
  simp only at h
  rwa [Int.toNat_of_nonneg h0] at h
def greB (n x : Int) : Bool := spB 1 8 n && spB 1 6 x
def greN (n x : Int) : Int := pw x n.toNat - pw (x - 1) n.toNat

theorem listsUpTo_any (N : Nat) (x : Int) (w : World) (hN : N ≤ 8) (h0 : 0 ≤ x) (h1 : x ≤ 6) :
    Calls Tryd.prog 26 #[.int .i64 (N : Int), .int .i64 x] w fun e w' => e = .returned (.int .i64 (pw x N)) ∧ w = w' := by
  go_enter Tryd.func26, Tryd.ntmps26
  go_wp2_with fail
  go_loop [5, 7] (fun v i => ∃ k : Nat, k ≤ N ∧ i = .int .i64 k ∧ v = .int .i64 (pw x k)) (fun _ i => N - (intOf i).toNat)
  case atStart => exact ⟨0, by omega, rfl, rfl⟩
  case round =>
    obtain ⟨k, hk, rfl, rfl⟩ := hrel
    by_cases hlt : k < N
    · have hlt' : (k : Int) < N := by omega
      have b1 : 0 ≤ pw x k * x ∧ pw x k * x ≤ 1679616 := pw_bd (k := k + 1) h0 h1 (by omega)
      have hE := Lib.hid (show pw x k * x = pw x (k + 1) from rfl)
      generalize pw x k = Q at *
      generalize hQ : Q * x = P at *
      have HQ := Lib.hid hQ
      clear hQ
      have ew : IntKind.i64.wrap (Q * x) = P := by rw [HQ.out]; exact IntWalk.i64_in _ (by omega)
      go_wp2_with fail
      go_round
      case rel => exact ⟨k + 1, by omega, by go_num, congrArg _ hE.out⟩
      case measure => simp [intOf]; omega
    · obtain rfl : k = N := by omega
      go_wp2_with fail
      go_ret
      exact ⟨rfl, rfl⟩

set_option maxRecDepth 100000 in
set_option maxHeartbeats 4000000 in
theorem greatestOfP_any (n x : Int) (w : World) (hg0 : SpanAt w 2 1 8) (hg1 : SpanAt w 3 1 6) :
    Calls Tryd.prog 11 #[.int .i64 n, .int .i64 x] w fun e w' => e = .returned (ib (greB n x) (greN n x)) ∧ Kp w w' := by
  have C0 := Lib.hid (fun w => has_any 1 8 n w)
  have C1 := Lib.hid (fun w => has_any 1 6 x w)
  cases h0 : spB 1 8 n
  · rw [h0] at C0
    have hO : greB n x = false := by simp [greB, h0]
    rw [hO]
    go_enter Tryd.func11, Tryd.ntmps11
    obtain ⟨b0, c0⟩ := id hg0
    go_wp2_with fail
    refine (C0.out _).mono ?_
    rintro e1 w1 ⟨rfl, k1⟩
    have K1 := k1
    go_wp2_with fail
    go_ret2
    exact ⟨rfl, K1⟩
  · rw [h0] at C0
    cases h1 : spB 1 6 x
    · rw [h1] at C1
      have hO : greB n x = false := by simp [greB, h0, h1]
      rw [hO]
      go_enter Tryd.func11, Tryd.ntmps11
      obtain ⟨b0, c0⟩ := id hg0
      go_wp2_with fail
      refine (C0.out _).mono ?_
      rintro e1 w1 ⟨rfl, k1⟩
      have K1 := k1
      obtain ⟨b1, c1⟩ := K1.two hg1
      go_wp2_with fail
      refine (C1.out _).mono ?_
      rintro e2 w2 ⟨rfl, k2⟩
      have K2 := K1.trans k2
      go_wp2_with fail
      go_ret2
      exact ⟨rfl, K2⟩
    · rw [h1] at C1
      have hO : greB n x = true := by simp [greB, h0, h1]
      rw [hO]
      clear hO
      have hn := sp_bd h0
      have hx := sp_bd h1
      obtain ⟨N, rfl⟩ : ∃ N : Nat, n = N := ⟨n.toNat, by omega⟩
      have hE := Lib.hid (show pw x N - pw (x - 1) N = greN N x by unfold greN; rw [Int.toNat_natCast])
      have p1 := pw_bd (x := x) (k := N) (by omega) (by omega) (by omega)
      have p2 := pw_bd (x := x - 1) (k := N) (by omega) (by omega) (by omega)
      have CA := Lib.hid (fun w => listsUpTo_any N x w (by omega) (by omega) (by omega))
      have CB := Lib.hid (fun w => listsUpTo_any N (x - 1) w (by omega) (by omega) (by omega))
      generalize greN N x = G at *
      generalize pw x N = P at *
      generalize pw (x - 1) N = Q at *
      have ew : IntKind.i64.wrap (x - 1) = x - 1 := IntWalk.i64_in _ (by omega)
      have ew2 : IntKind.i64.wrap (P - Q) = P - Q := IntWalk.i64_in _ (by omega)
      go_enter Tryd.func11, Tryd.ntmps11
      obtain ⟨b0, c0⟩ := id hg0
      go_wp2_with fail
      refine (C0.out _).mono ?_
      rintro e1 w1 ⟨rfl, k1⟩
      have K1 := k1
      obtain ⟨b1, c1⟩ := K1.two hg1
      go_wp2_with fail
      refine (C1.out _).mono ?_
      rintro e2 w2 ⟨rfl, k2⟩
      have K2 := K1.trans k2
      go_wp2_with fail
      refine (CA.out _).mono ?_
      rintro e8 w8 ⟨rfl, rfl⟩
      go_wp2_with fail
      refine (CB.out _).mono ?_
      rintro e9 w9 ⟨rfl, rfl⟩
      go_wp2_with fail
      go_ret2
      exact ⟨by rw [hE.out]; rfl, K2⟩

set_option maxRecDepth 100000 in
set_option maxHeartbeats 4000000 in
theorem greatestOfS_any (n x : Int) (w : World) :
    Calls Tryd.prog 12 #[.int .i64 n, .int .i64 x] w fun e w' => e = .returned (ib (greB n x) (greN n x)) ∧ w = w' := by
  have C0 := Lib.hid (fun w => l1In_sp n 1 8 w)
  have C1 := Lib.hid (fun w => l1In_sp x 1 6 w)
  cases h0 : spB 1 8 n
  · rw [h0] at C0
    have hO : greB n x = false := by simp [greB, h0]
    rw [hO]
    go_enter Tryd.func12, Tryd.ntmps12
    go_wp2_with fail
    refine (C0.out _).mono ?_
    rintro e1 w1 ⟨rfl, rfl⟩
    go_wp2_with fail
    go_ret2
    exact ⟨rfl, rfl⟩
  · rw [h0] at C0
    cases h1 : spB 1 6 x
    · rw [h1] at C1
      have hO : greB n x = false := by simp [greB, h0, h1]
      rw [hO]
      go_enter Tryd.func12, Tryd.ntmps12
      go_wp2_with fail
      refine (C0.out _).mono ?_
      rintro e1 w1 ⟨rfl, rfl⟩
      go_wp2_with fail
      refine (C1.out _).mono ?_
      rintro e2 w2 ⟨rfl, rfl⟩
      go_wp2_with fail
      go_ret2
      exact ⟨rfl, rfl⟩
    · rw [h1] at C1
      have hO : greB n x = true := by simp [greB, h0, h1]
      rw [hO]
      clear hO
      have hn := sp_bd h0
      have hx := sp_bd h1
      obtain ⟨N, rfl⟩ : ∃ N : Nat, n = N := ⟨n.toNat, by omega⟩
      have hE := Lib.hid (show pw x N - pw (x - 1) N = greN N x by unfold greN; rw [Int.toNat_natCast])
      have ew : IntKind.i64.wrap (x - 1) = x - 1 := IntWalk.i64_in _ (by omega)
      generalize greN N x = G at *
      go_enter Tryd.func12, Tryd.ntmps12
      go_wp2_with fail
      refine (C0.out _).mono ?_
      rintro e1 w1 ⟨rfl, rfl⟩
      go_wp2_with fail
      refine (C1.out _).mono ?_
      rintro e2 w2 ⟨rfl, rfl⟩
      go_wp2_with fail
      go_loop [0, 6, 7] (fun nv a b => ∃ k : Nat, k ≤ N ∧ nv = .int .i64 ((N : Int) - k) ∧ a = .int .i64 (pw x k) ∧ b = .int .i64 (pw (x - 1) k)) (fun nv _ _ => (intOf nv).toNat)
      case atStart => exact ⟨0, by omega, by simp, rfl, rfl⟩
      case round =>
        obtain ⟨k, hk, rfl, rfl, rfl⟩ := hrel
        by_cases hlt : k < N
        · have hlt' : 0 < (N : Int) - k := by omega
          have b1 : 0 ≤ pw x k * x ∧ pw x k * x ≤ 1679616 := pw_bd (x := x) (k := k + 1) (by omega) (by omega) (by omega)
          have b2 : 0 ≤ pw (x - 1) k * (x - 1) ∧ pw (x - 1) k * (x - 1) ≤ 1679616 := pw_bd (x := x - 1) (k := k + 1) (by omega) (by omega) (by omega)
          have q1 := Lib.hid (show pw x k * x = pw x (k + 1) from rfl)
          have q2 := Lib.hid (show pw (x - 1) k * (x - 1) = pw (x - 1) (k + 1) from rfl)
          generalize pw x k = Q at *
          generalize pw (x - 1) k = Q2 at *
          generalize hP1 : Q * x = P1 at *
          generalize hP2 : Q2 * (x - 1) = P2 at *
          have HP1 := Lib.hid hP1
          have HP2 := Lib.hid hP2
          clear hP1 hP2
          have e1 : IntKind.i64.wrap (Q * x) = P1 := by rw [HP1.out]; exact IntWalk.i64_in _ (by omega)
          have e2 : IntKind.i64.wrap (Q2 * (x - 1)) = P2 := by rw [HP2.out]; exact IntWalk.i64_in _ (by omega)
          go_wp2_with fail
          go_round
          case rel => exact ⟨k + 1, by omega, by go_num, congrArg _ q1.out, congrArg _ q2.out⟩
          case measure => simp [intOf]; omega
        · obtain rfl : k = N := by omega
          have p1 := pw_bd (x := x) (k := k) (by omega) (by omega) (by omega)
          have p2 := pw_bd (x := x - 1) (k := k) (by omega) (by omega) (by omega)
          generalize pw x k = P at *
          generalize pw (x - 1) k = Q at *
          go_wp2_with fail
          go_ret2
          exact ⟨by rw [← hE.out]; rfl, rfl⟩

end Go.Proofs.YtmhkjcgdjoeldaaDoor
