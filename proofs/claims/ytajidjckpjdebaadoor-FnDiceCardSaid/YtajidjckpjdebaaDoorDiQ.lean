/-
  Shuffles: the reference's. Nothing that was there is changed.
-/
import Derived.Test.YtajidjckpjdebaaDoorDiP
namespace Go.Proofs.YtajidjckpjdebaaDoor
open Go.RowKit

set_option maxRecDepth 100000 in
set_option maxHeartbeats 8000000 in
theorem dShuffle_any (s : Int) (N : Nat) (w : World) (hN : N ≤ 40) :
    Calls Tryd.prog 30 #[.int .i64 s, .int .i64 (N : Int)] w fun e w' => ∃ v, e = .returned v ∧ OwnI w' w.heap.size v (shuL s N) ∧ Kp w w' := by
  obtain ⟨j0, hj0, hz0, hs0, hb0⟩ := info_parts infoInt
  have CB := Lib.hid (fun (k : Nat) (hk : k ≤ 40) w => dBelow_any s (k : Int) ((k : Int) + 1) w (by omega) (by omega))
  obtain ⟨R, hRR⟩ : ∃ R, R = shuL s N := ⟨_, rfl⟩
  rw [← hRR]
  have HRR := Lib.hid hRR
  clear hRR
  go_enter Tryd.func30, Tryd.ntmps30
  go_wp2_with fail
  go_loopw [5, 6] (fun v iv wr => ∃ k : Nat, k ≤ N ∧ iv = .int .i64 k ∧ Hid (OwnI wr w.heap.size v (idL k)) ∧ Kp w wr) (fun _ iv _ => N - (intOf iv).toNat)
  case atStart => exact ⟨0, by omega, rfl, Lib.hid (OwnI.nil _ _), Kp.refl _⟩
  case round =>
    obtain ⟨k, hk, rfl, hO, kr⟩ := hrel
    by_cases hlt : k < N
    · have hlt' : (k : Int) < N := by omega
      have HS := Lib.hid (show idL (k + 1) = idL k ++ [(k : Int)] from rfl)
      have hln := Lib.hid (idL_len k)
      generalize idL k = L at hO HS hln
      have hz := kr.size
      go_wp2_with (at_builtin; refine wpList_append_own_at _ rfl (.tmp 15) (.tmp 17) 26 rfl w.heap.size 3 j0 (.int .i64 0) 1 8 Tryd.underlying26 hj0 hz0 hs0 hb0 rfl (by decide) _ L.length (cellsI L) rfl (World.ownsRow.alloc hO.out _) ⟨wr.heap.size, 0, none⟩ 1 1 [.int .i64 (k : Int)] rfl rfl (one_cell _ _ _) (by simp [Value.oneCell']) (by have := hln.out; simp only [maxLen]; omega) (by have := hln.out; omega) (by simp; omega) ?_; intro v' w3 hown2 hgrow2 hnil2 hat2; clear hnil2 hat2; have O3 : Hid (OwnI w3 w.heap.size v' (idL (k + 1))) := Lib.hid (by rw [HS.out]; exact OwnI.snoc hown2); have K3 : Kp w w3 := (kr.alloc _).grown hgrow2 (fun k e => (World.ownsRow.lt hO.out k e).1); clear hown2 hgrow2)
      go_roundw
      case rel => exact ⟨k + 1, by omega, by go_num, O3, K3⟩
      case measure => simp [intOf]; omega
    · obtain rfl : k = N := by omega
      have hR2 : Hid (shuR s (k - 1) (idL k) = R) := Lib.hid HRR.out.symm
      have hl0 := idL_len k
      generalize idL k = L0 at *
      clear HRR
      have ew : IntKind.i64.wrap ((k : Int) - 1) = (k : Int) - 1 := IntWalk.i64_in _ (by omega)
      by_cases hk0 : k = 0
      · subst hk0
        have hR3 : L0 = R := hR2.out
        subst hR3
        go_wp2_with fail
        go_loop [7] (fun kv => kv = .int .i64 (-1)) (fun _ => 0)
        case atStart => rfl
        case round =>
          obtain rfl := hrel
          go_wp2_with fail
          go_ret
          exact ⟨_, rfl, hO.out, kr⟩
      · obtain ⟨G, cap, ev⟩ : ∃ G cap, u5 = .slice (some ⟨G, 0, none⟩) k cap := by
          rcases hO.out.2 with ⟨_, hn⟩ | ⟨g, cap, cur, h1, _⟩
          · omega
          · exact ⟨g, cap, by rw [h1, hl0]⟩
        subst ev
        have hG := (World.ownsRow.lt hO.out G rfl).1
        generalize hNk : k = N at *
        go_wp2_with fail
        go_loopw [7] (fun kv wz => ∃ (x : Int) (j : Nat) (L : List Int), kv = .int .i64 x ∧ x = (j : Int) - 1 ∧ j ≤ N ∧ L.length = N ∧ Hid (shuR s (j - 1) L = R) ∧ Hid (OwnI wz w.heap.size (.slice (some ⟨G, 0, none⟩) N cap) L) ∧ Kp w wz) (fun kv _ => (intOf kv).toNat)
        case atStart => exact ⟨_, N, L0, rfl, rfl, Nat.le_refl _, hl0, hR2, hO, kr⟩
        case round =>
          clear hO kr hR2 hl0
          obtain ⟨x, j, L, rfl, hx, hj, hlen, hR, hP, kr⟩ := hrel
          by_cases hj2 : 2 ≤ j
          · obtain ⟨K, rfl⟩ : ∃ K, j = K + 1 := ⟨j - 1, by omega⟩
            obtain rfl : x = (K : Int) := by omega
            rw [Nat.add_sub_cancel] at hR
            have hD := belN_bd s (K : Int) ((K : Int) + 1) (by omega)
            have HR2 : Hid (shuR s (K - 1) (shS s L K) = R) := Lib.hid (by
              rw [← hR.out]
              obtain ⟨K', rfl⟩ : ∃ K', K = K' + 1 := ⟨K - 1, by omega⟩
              rfl)
            obtain ⟨J, hJ⟩ : ∃ J : Nat, J = (belN s (K : Int) ((K : Int) + 1)).toNat := ⟨_, rfl⟩
            have hDJ : belN s (K : Int) ((K : Int) + 1) = (J : Int) := by omega
            have HS := Lib.hid (show shS s L K = (L.set K (getI L J)).set J (getI L K) by rw [hJ]; rfl)
            have ek : IntKind.i64.wrap ((K : Int) + 1) = (K : Int) + 1 := IntWalk.i64_in _ (by omega)
            have em : IntKind.i64.wrap ((K : Int) - 1) = (K : Int) - 1 := IntWalk.i64_in _ (by omega)
            have hJN : J < N := by omega
            have hKN : K < N := by omega
            have hJN' : (J : Int) < (N : Int) := by omega
            have hKN' : (K : Int) < (N : Int) := by omega
            have hK1 : 1 ≤ (K : Int) := by omega
            have CB1 := Lib.hid (fun w => CB.out K (by omega) w)
            rw [hDJ] at CB1
            clear hx hj hJ hDJ hD
            go_wp2_with fail
            refine (CB1.out _).mono ?_
            rintro e8 w8 ⟨rfl, k8⟩
            have hP8 := Lib.hid (hP.out.keep k8)
            have K8 := kr.trans k8
            have hGK : w.heap.size ≤ G := hG
            clear hP k8 kr
            have c1 := hP8.out.at (k := K) (by omega)
            have c2 := hP8.out.at (k := J) (by omega)
            generalize getI L K = yK at *
            generalize getI L J = yJ at *
            obtain ⟨⟨u1, a1⟩, f1, o1⟩ := hP8.out.put hlen hKN yJ
            have P10 := Lib.hid o1
            have K10 := K8.setCell (p := ⟨G, K, none⟩) hGK (.int .i64 yJ)
            clear hP8 K8 o1 a1
            go_upto_region 12 with fail
            clear c1 c2 f1
            generalize w8.setCell ⟨G, K, none⟩ (.int .i64 yJ) = w10 at *
            obtain ⟨⟨u2, a2⟩, f2, o2⟩ := P10.out.put (by rw [List.length_set]; exact hlen) hJN yK
            have O3 := Lib.hid o2
            have K11 := K10.setCell (p := ⟨G, J, none⟩) hGK (.int .i64 yK)
            clear o2 P10 K10
            go_wp2_with fail
            go_roundw
            case rel => exact ⟨_, K, shS s L K, rfl, rfl, by omega, by rw [shS_len]; exact hlen, HR2, Lib.hid (by rw [HS.out]; exact O3.out), K11⟩
            case measure => simp [intOf]; omega
          · have hx1 : x < 1 := by omega
            have hR3 : L = R := by
              have := hR.out
              rw [show j - 1 = 0 by omega] at this
              exact this
            subst hR3
            go_wp2_with fail
            go_ret
            exact ⟨_, rfl, hP.out, kr⟩

set_option maxRecDepth 100000 in
set_option maxHeartbeats 4000000 in
theorem shuffleByS_any (s n : Int) (w : World) :
    Calls Tryd.prog 12 #[.int .i64 s, .int .i64 n] w fun e w' => ListPostI (shuB s n) (shuL s n.toNat) w e w' := by
  have C0 := Lib.hid (fun w => dSeed_any s w)
  have C1 := Lib.hid (fun w => l1In_sp n 0 40 w)
  cases h0 : seedB s
  · rw [h0] at C0
    have hO : shuB s n = false := by simp [shuB, h0]
    rw [hO]
    go_enter Tryd.func12, Tryd.ntmps12
    go_wp2_with fail
    refine (C0.out _).mono ?_
    rintro e1 w1 ⟨rfl, rfl⟩
    go_wp2_with fail
    go_ret2
    exact ListPostI.no (Kp.refl _)
  · rw [h0] at C0
    cases h1 : spB 0 40 n
    · rw [h1] at C1
      have hO : shuB s n = false := by simp [shuB, h0, h1]
      rw [hO]
      go_enter Tryd.func12, Tryd.ntmps12
      go_wp2_with fail
      refine (C0.out _).mono ?_
      rintro e1 w1 ⟨rfl, rfl⟩
      go_wp2_with fail
      refine (C1.out _).mono ?_
      rintro e2 w2 ⟨rfl, rfl⟩
      go_wp2_with fail
      go_ret2
      exact ListPostI.no (Kp.refl _)
    · rw [h1] at C1
      have hO : shuB s n = true := by simp [shuB, h0, h1]
      rw [hO]
      clear hO
      have hn := sp_bd h1
      obtain ⟨N, rfl⟩ : ∃ N : Nat, n = N := ⟨n.toNat, by omega⟩
      rw [Int.toNat_natCast]
      have CD := Lib.hid (fun w => dShuffle_any s N w (by omega))
      generalize shuL s N = L at *
      go_enter Tryd.func12, Tryd.ntmps12
      go_wp2_with fail
      refine (C0.out _).mono ?_
      rintro e1 w1 ⟨rfl, rfl⟩
      go_wp2_with fail
      refine (C1.out _).mono ?_
      rintro e2 w2 ⟨rfl, rfl⟩
      go_wp2_with fail
      refine (CD.out _).mono ?_
      rintro e9 w9 ⟨v9, rfl, o9, k9⟩
      go_wp2_with fail
      go_ret2
      exact ⟨v9, rfl, o9, k9⟩

end Go.Proofs.YtajidjckpjdebaaDoor
