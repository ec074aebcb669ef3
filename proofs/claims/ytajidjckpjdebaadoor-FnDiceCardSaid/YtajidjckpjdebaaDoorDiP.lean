/-
  Shuffles: both sides. Nothing that was there is changed.
-/
import Derived.Test.YtajidjckpjdebaaDoorDiW
import Derived.Test.YtajidjckpjdebaaDoorHem
namespace Go.Proofs.YtajidjckpjdebaaDoor
open Go.RowKit

def shuB (s n : Int) : Bool := seedB s && spB 0 40 n
def idL : Nat → List Int
  | 0 => []
  | n + 1 => idL n ++ [(n : Int)]
def shS (s : Int) (l : List Int) (k : Nat) : List Int := (l.set k (getI l (belN s k (k + 1)).toNat)).set (belN s k (k + 1)).toNat (getI l k)
def shuR (s : Int) : Nat → List Int → List Int
  | 0, l => l
  | k + 1, l => shuR s k (shS s l (k + 1))
def shuL (s : Int) (n : Nat) : List Int := shuR s (n - 1) (idL n)
theorem idL_len : ∀ n, (idL n).length = n
  | 0 => rfl
  | n + 1 => by rw [idL, List.length_append, idL_len n]; rfl
theorem shS_len (s : Int) (l : List Int) (k : Nat) : (shS s l k).length = l.length := by simp [shS]
theorem shuR_len (s : Int) : ∀ (k : Nat) (l : List Int), (shuR s k l).length = l.length
  | 0, _ => rfl
  | k + 1, l => by rw [shuR, shuR_len s k, shS_len]
theorem shuL_len (s : Int) (n : Nat) : (shuL s n).length = n := by rw [shuL, shuR_len, idL_len]
theorem id_put {k n : Nat} (h : k < n) : (idL k ++ List.replicate (n - k) 0).set k (k : Int) = idL (k + 1) ++ List.replicate (n - (k + 1)) 0 := by
  rw [List.set_append_right _ _ (by rw [idL_len]; omega), idL_len, Nat.sub_self, idL, List.append_assoc]
  obtain ⟨d, hd⟩ : ∃ d, n - k = d + 1 := ⟨n - k - 1, by omega⟩
  rw [hd, show n - (k + 1) = d by omega, List.replicate_succ]
  rfl
theorem belB_in {s : Int} {k : Nat} (h : seedB s = true) (hk : k ≤ 40) : belB s k ((k : Int) + 1) = true := by
  have h1 : numB (k : Int) = true := by simp [numB, spB]; omega
  have h2 : spB 1 1000000 ((k : Int) + 1) = true := by simp [spB]; omega
  simp [belB, h, h1, h2]

set_option maxRecDepth 100000 in
set_option maxHeartbeats 4000000 in
theorem shuffleByP_any (s n : Int) (w : World) (hg0 : SpanAt w 0 0 4611686016279904236) (hg1 : SpanAt w 3 0 40) (hg2 : SpanAt w 1 0 1000000) (hg3 : SpanAt w 4 1 1000000) :
    Calls Tryd.prog 11 #[.int .i64 s, .int .i64 n] w fun e w' => ListPostI (shuB s n) (shuL s n.toNat) w e w' := by
  have C0 := Lib.hid (fun w => has_any 0 4611686016279904236 s w)
  have C1 := Lib.hid (fun w => has_any 0 40 n w)
  cases h0 : spB 0 4611686016279904236 s
  · rw [h0] at C0
    have hO : shuB s n = false := by simp [shuB, seedB, h0]
    rw [hO]
    go_enter Tryd.func11, Tryd.ntmps11
    obtain ⟨b0, c0⟩ := id hg0
    go_wp2_with fail
    refine (C0.out _).mono ?_
    rintro e1 w1 ⟨rfl, k1⟩
    have K1 := k1
    go_wp2_with fail
    go_ret2
    exact ListPostI.no K1
  · rw [h0] at C0
    cases h1 : spB 0 40 n
    · rw [h1] at C1
      have hO : shuB s n = false := by simp [shuB, seedB, h0, h1]
      rw [hO]
      go_enter Tryd.func11, Tryd.ntmps11
      obtain ⟨b0, c0⟩ := id hg0
      go_wp2_with fail
      refine (C0.out _).mono ?_
      rintro e1 w1 ⟨rfl, k1⟩
      have K1 := k1
      obtain ⟨b1, c1⟩ := K1.two hg1
      go_wp2_with fail
      refine (C1.out _).mono ?_
      rintro e2 w2 ⟨rfl, k2⟩
      have K2 := K1.trans k2
      go_wp2_with fail
      go_ret2
      exact ListPostI.no K2
    · rw [h1] at C1
      have hO : shuB s n = true := by simp [shuB, seedB, h0, h1]
      rw [hO]
      clear hO
      have hn := sp_bd h1
      have hse : seedB s = true := h0
      obtain ⟨N, rfl⟩ : ∃ N : Nat, n = N := ⟨n.toNat, by omega⟩
      rw [Int.toNat_natCast]
      have CB := Lib.hid (fun (k : Nat) (hk : k ≤ 40) w hg0 hg2 hg3 => numberBelowP_any s (k : Int) ((k : Int) + 1) w hg0 hg2 hg3)
      obtain ⟨R, hRR⟩ : ∃ R, R = shuL s N := ⟨_, rfl⟩
      rw [← hRR]
      have HRR := Lib.hid hRR
      clear hRR
      go_enter Tryd.func11, Tryd.ntmps11
      obtain ⟨b0, c0⟩ := id hg0
      go_wp2_with fail
      refine (C0.out _).mono ?_
      rintro e1 w1 ⟨rfl, k1⟩
      have K1 := k1
      obtain ⟨b1, c1⟩ := K1.two hg1
      go_wp2_with fail
      refine (C1.out _).mono ?_
      rintro e2 w2 ⟨rfl, k2⟩
      have K2 := K1.trans k2
      have G0 := Lib.hid (K2.two hg0)
      have G2 := Lib.hid (K2.two hg2)
      have G3 := Lib.hid (K2.two hg3)
      have hmk := mkInts N (by omega) w2
      have HM : Hid (OwnI (w2.alloc (.cells (madeCells #[.int .i64 0] N) 3)) w2.heap.size (.slice (some ⟨w2.heap.size, 0, none⟩) N N) (idL 0 ++ List.replicate (N - 0) 0)) := Lib.hid (ownI_zero w2 N (by omega))
      have KM : Kp w2 (w2.alloc (.cells (madeCells #[.int .i64 0] N) 3)) := (Kp.refl _).alloc _
      go_upto_region 4 with fail
      clear hmk
      generalize w2.alloc (.cells (madeCells #[.int .i64 0] N) 3) = W3 at *
      go_wp2_with fail
      go_loopw [25] (fun iv wr => ∃ k : Nat, k ≤ N ∧ iv = .int .i64 k ∧ Hid (OwnI wr w2.heap.size (.slice (some ⟨w2.heap.size, 0, none⟩) N N) (idL k ++ List.replicate (N - k) 0)) ∧ Kp w2 wr) (fun iv _ => N - (intOf iv).toNat)
      case atStart => exact ⟨0, by omega, rfl, HM, KM⟩
      case round =>
        clear HM KM
        obtain ⟨k, hk, rfl, hP, kr⟩ := hrel
        by_cases hlt : k < N
        · have hlt' : (k : Int) < N := by omega
          have HI := Lib.hid (id_put hlt)
          have hln : (idL k ++ List.replicate (N - k) 0).length = N := by rw [List.length_append, idL_len, List.length_replicate]; omega
          generalize idL k ++ List.replicate (N - k) 0 = L at *
          obtain ⟨⟨u9, a9⟩, f9, q9⟩ := hP.out.put hln hlt (k : Int)
          have Q9 := Lib.hid q9
          clear q9 hP
          go_wp2_with fail
          go_roundw
          case rel => exact ⟨k + 1, by omega, by go_num, Lib.hid (by rw [← HI.out]; exact Q9.out), kr.setCell (by simp) _⟩
          case measure => simp [intOf]; omega
        · obtain rfl : k = N := by omega
          have hP2 : Hid (OwnI wr w2.heap.size (.slice (some ⟨w2.heap.size, 0, none⟩) k k) (idL k)) := Lib.hid (by have := hP.out; simpa using this)
          have hR2 : Hid (shuR s (k - 1) (idL k) = R) := Lib.hid HRR.out.symm
          have hl0 := idL_len k
          generalize idL k = L0 at *
          clear hP HRR
          generalize hNk : k = N at *
          have ew : IntKind.i64.wrap ((N : Int) - 1) = (N : Int) - 1 := IntWalk.i64_in _ (by omega)
          go_wp2_with fail
          go_loopw [8] (fun kv wr => ∃ (x : Int) (j : Nat) (L : List Int), kv = .int .i64 x ∧ x = (j : Int) - 1 ∧ j ≤ N ∧ L.length = N ∧ Hid (shuR s (j - 1) L = R) ∧ Hid (OwnI wr w2.heap.size (.slice (some ⟨w2.heap.size, 0, none⟩) N N) L) ∧ Kp w2 wr) (fun kv _ => (intOf kv).toNat)
          case atStart => exact ⟨_, N, L0, rfl, rfl, Nat.le_refl _, hl0, hR2, hP2, kr⟩
          case round =>
            clear hP2 kr hR2 hl0
            obtain ⟨x, j, L, rfl, hx, hj, hlen, hR, hP, kr⟩ := hrel
            by_cases hj2 : 2 ≤ j
            · obtain ⟨K, rfl⟩ : ∃ K, j = K + 1 := ⟨j - 1, by omega⟩
              obtain rfl : x = (K : Int) := by omega
              rw [Nat.add_sub_cancel] at hR
              have hD := belN_bd s (K : Int) ((K : Int) + 1) (by omega)
              have HR2 : Hid (shuR s (K - 1) (shS s L K) = R) := Lib.hid (by
                rw [← hR.out]
                obtain ⟨K', rfl⟩ : ∃ K', K = K' + 1 := ⟨K - 1, by omega⟩
                rfl)
              obtain ⟨J, hJ⟩ : ∃ J : Nat, J = (belN s (K : Int) ((K : Int) + 1)).toNat := ⟨_, rfl⟩
              have hDJ : belN s (K : Int) ((K : Int) + 1) = (J : Int) := by omega
              have HS := Lib.hid (show shS s L K = (L.set K (getI L J)).set J (getI L K) by rw [hJ]; rfl)
              have ek : IntKind.i64.wrap ((K : Int) + 1) = (K : Int) + 1 := IntWalk.i64_in _ (by omega)
              have em : IntKind.i64.wrap ((K : Int) - 1) = (K : Int) - 1 := IntWalk.i64_in _ (by omega)
              have hJN : J < N := by omega
              have hKN : K < N := by omega
              have hJN' : (J : Int) < (N : Int) := by omega
              have hKN' : (K : Int) < (N : Int) := by omega
              have hK1 : 1 ≤ (K : Int) := by omega
              have CB1 := Lib.hid (fun w a b c => CB.out K (by omega) w a b c)
              rw [belB_in hse (by omega), hDJ] at CB1
              unfold ib at CB1
              rw [vI_true] at CB1
              have c1 := hP.out.at (k := K) (by omega)
              clear hx hj hJ hDJ hD
              go_wp2_with fail
              refine (CB1.out _ (kr.two G0.out) (kr.two G2.out) (kr.two G3.out)).mono ?_
              rintro e8 w8 ⟨rfl, k8⟩
              have hP8 := Lib.hid (hP.out.keep k8)
              have K8 := kr.trans k8
              clear hP k8 kr c1
              have c1 := hP8.out.at (k := K) (by omega)
              have c2 := hP8.out.at (k := J) (by omega)
              generalize getI L K = yK at *
              generalize getI L J = yJ at *
              go_wp2_with fail
              have P9 : Hid (OwnI w8.drew w2.heap.size (.slice (some ⟨w2.heap.size, 0, none⟩) N N) L) := Lib.hid (hP8.out.keep (Kp.refl _).drew)
              have K9 := K8.drew
              have d1 : w8.drew.cell? ⟨w2.heap.size, K, none⟩ = some (.int .i64 yK) := c1
              have d2 : w8.drew.cell? ⟨w2.heap.size, J, none⟩ = some (.int .i64 yJ) := c2
              have dd : w8.drew.cell? ⟨w2.heap.size, K, none⟩ = some (.int .i64 yK) ∧ w8.drew.cell? ⟨w2.heap.size, J, none⟩ = some (.int .i64 yJ) := ⟨d1, d2⟩
              clear c1 c2 d1 d2
              refine wp_region_zs [13, 14, 15] (S := fun w' => w'.cell? ⟨w2.heap.size, K, none⟩ = some (.int .i64 yK) ∧ w'.cell? ⟨w2.heap.size, J, none⟩ = some (.int .i64 yJ)) (by kernel_rfl) ?_ (fun hHeld => ?_)
              · exact dd
              clear hP8 K8 dd
              generalize w8.drew = w9 at *
              refine wpAnyZ_free (i := 2) (oi := ⟨some 49, _, _, _, _, _⟩) (v := ?_) rfl (by kernel_rfl) (by kernel_rfl) (by kernel_rfl) (by kernel_rfl) (by kernel_rfl) (fun _ _ _ h => h) (Or.inl ⟨by rfl, ?_⟩) (by assumption) ?_
              rotate_left
              · intro w hSw; (try dsimp only at hSw); go_simp; (all_goals with_reducible rfl)
              try simp only [Act.put, List.setIfInBounds_toArray, List.set_cons_zero, List.set_cons_succ]
              refine wpAnyZ_free (i := 3) (oi := ⟨some 50, _, _, _, _, _⟩) (v := ?_) rfl (by kernel_rfl) (by kernel_rfl) (by kernel_rfl) (by kernel_rfl) (by kernel_rfl) (fun _ _ _ h => h) (Or.inl ⟨by rfl, ?_⟩) (by assumption) ?_
              rotate_left
              · intro w hSw; (try dsimp only at hSw); go_simp; (all_goals with_reducible rfl)
              try simp only [Act.put, List.setIfInBounds_toArray, List.set_cons_zero, List.set_cons_succ]
              refine wpAnyZ_take (i := 0) (oi := ⟨some 47, _, _, _, _, _⟩) (v := ?_) rfl (by kernel_rfl) (by kernel_rfl) (by kernel_rfl) (by kernel_rfl) (by kernel_rfl) (by kernel_rfl) (fun _ _ _ h => h) (Or.inl ⟨by rfl, ?_⟩) (by assumption) ?_
              rotate_left
              · intro w hSw; (try dsimp only at hSw); go_simp; (all_goals with_reducible rfl)
              try simp only [Act.put, List.setIfInBounds_toArray, List.set_cons_zero, List.set_cons_succ]
              refine wpAnyZ_take (i := 1) (oi := ⟨some 48, _, _, _, _, _⟩) (v := ?_) rfl (by kernel_rfl) (by kernel_rfl) (by kernel_rfl) (by kernel_rfl) (by kernel_rfl) (by kernel_rfl) (fun _ _ _ h => h) (Or.inl ⟨by rfl, ?_⟩) (by assumption) ?_
              rotate_left
              · intro w hSw; (try dsimp only at hSw); go_simp; (all_goals with_reducible rfl)
              try simp only [Act.put, List.setIfInBounds_toArray, List.set_cons_zero, List.set_cons_succ]
              refine wpAnyZ_take (i := 4) (oi := ⟨some 51, _, _, _, _, _⟩) (v := ?_) rfl (by kernel_rfl) (by kernel_rfl) (by kernel_rfl) (by kernel_rfl) (by kernel_rfl) (by kernel_rfl) (fun _ _ _ h => h) (Or.inl ⟨by rfl, ?_⟩) (by assumption) ?_
              rotate_left
              · intro w hSw; (try dsimp only at hSw); go_simp; (all_goals with_reducible rfl)
              try simp only [Act.put, List.setIfInBounds_toArray, List.set_cons_zero, List.set_cons_succ]
              refine wpAnyZ_take (i := 5) (oi := ⟨some 52, _, _, _, _, _⟩) (v := ?_) rfl (by kernel_rfl) (by kernel_rfl) (by kernel_rfl) (by kernel_rfl) (by kernel_rfl) (by kernel_rfl) (fun _ _ _ h => h) (Or.inl ⟨by rfl, ?_⟩) (by assumption) ?_
              rotate_left
              · intro w hSw; (try dsimp only at hSw); go_simp; (all_goals with_reducible rfl)
              try simp only [Act.put, List.setIfInBounds_toArray, List.set_cons_zero, List.set_cons_succ]
              refine wpAnyZ_take (i := 6) (oi := ⟨some 53, _, _, _, _, _⟩) (v := ?_) rfl (by kernel_rfl) (by kernel_rfl) (by kernel_rfl) (by kernel_rfl) (by kernel_rfl) (by kernel_rfl) (fun _ _ _ h => h) (Or.inl ⟨by rfl, ?_⟩) (by assumption) ?_
              rotate_left
              · intro w hSw; (try dsimp only at hSw); go_simp; (all_goals with_reducible rfl)
              try simp only [Act.put, List.setIfInBounds_toArray, List.set_cons_zero, List.set_cons_succ]
              refine wpAnyZ_take (i := 7) (oi := ⟨some 54, _, _, _, _, _⟩) (v := ?_) rfl (by kernel_rfl) (by kernel_rfl) (by kernel_rfl) (by kernel_rfl) (by kernel_rfl) (by kernel_rfl) (fun _ _ _ h => h) (Or.inl ⟨by rfl, ?_⟩) (by assumption) ?_
              rotate_left
              · intro w hSw; (try dsimp only at hSw); go_simp; (all_goals with_reducible rfl)
              try simp only [Act.put, List.setIfInBounds_toArray, List.set_cons_zero, List.set_cons_succ]
              refine wpAnyZ_take (i := 8) (oi := ⟨some 55, _, _, _, _, _⟩) (v := ?_) rfl (by kernel_rfl) (by kernel_rfl) (by kernel_rfl) (by kernel_rfl) (by kernel_rfl) (by kernel_rfl) (fun _ _ _ h => h) (Or.inl ⟨by rfl, ?_⟩) (by assumption) ?_
              rotate_left
              · intro w hSw; (try dsimp only at hSw); go_simp; (all_goals with_reducible rfl)
              try simp only [Act.put, List.setIfInBounds_toArray, List.set_cons_zero, List.set_cons_succ]
              refine wpAnyZ_take (i := 9) (oi := ⟨some 56, _, _, _, _, _⟩) (v := ?_) rfl (by kernel_rfl) (by kernel_rfl) (by kernel_rfl) (by kernel_rfl) (by kernel_rfl) (by kernel_rfl) (fun _ _ _ h => h) (Or.inl ⟨by rfl, ?_⟩) (by assumption) ?_
              rotate_left
              · intro w hSw; (try dsimp only at hSw); go_simp; (all_goals with_reducible rfl)
              try simp only [Act.put, List.setIfInBounds_toArray, List.set_cons_zero, List.set_cons_succ]
              refine wpAnyZ_take (i := 10) (oi := ⟨some 57, _, _, _, _, _⟩) (v := ?_) rfl (by kernel_rfl) (by kernel_rfl) (by kernel_rfl) (by kernel_rfl) (by kernel_rfl) (by kernel_rfl) (fun _ _ _ h => h) (Or.inl ⟨by rfl, ?_⟩) (by assumption) ?_
              rotate_left
              · intro w hSw; (try dsimp only at hSw); go_simp; (all_goals with_reducible rfl)
              try simp only [Act.put, List.setIfInBounds_toArray, List.set_cons_zero, List.set_cons_succ]
              refine wpAnyZ_take (i := 11) (oi := ⟨some 58, _, _, _, _, _⟩) (v := ?_) rfl (by kernel_rfl) (by kernel_rfl) (by kernel_rfl) (by kernel_rfl) (by kernel_rfl) (by kernel_rfl) (fun _ _ _ h => h) (Or.inl ⟨by rfl, ?_⟩) (by assumption) ?_
              rotate_left
              · intro w hSw; (try dsimp only at hSw); go_simp; (all_goals with_reducible rfl)
              try simp only [Act.put, List.setIfInBounds_toArray, List.set_cons_zero, List.set_cons_succ]
              refine wpAnyZ_take (i := 12) (oi := ⟨some 59, _, _, _, _, _⟩) (v := ?_) rfl (by kernel_rfl) (by kernel_rfl) (by kernel_rfl) (by kernel_rfl) (by kernel_rfl) (by kernel_rfl) (fun _ _ _ h => h) (Or.inl ⟨by rfl, ?_⟩) (by assumption) ?_
              rotate_left
              · intro w hSw; (try dsimp only at hSw); go_simp; (all_goals with_reducible rfl)
              try simp only [Act.put, List.setIfInBounds_toArray, List.set_cons_zero, List.set_cons_succ]
              obtain ⟨⟨u1, a1⟩, f1, o1⟩ := P9.out.put hlen hKN yJ
              clear hHeld
              refine wpAnyZ_ready (rs := [13]) (by kernel_rfl) (by simp) ?_
              refine AllReadyZ.last (by simp) (o := ⟨none, _, _, _, _, _⟩) rfl (fun Kx hK => ?_) AllReadyZ.nil
              go_simp
              refine hK.out _ _ ?_
              clear hK Kx
              try simp only [Act.put, List.setIfInBounds_toArray, List.set_cons_zero, List.set_cons_succ]
              have K10 := K9.setCell (p := ⟨w2.heap.size, K, none⟩) (by simp) (.int .i64 yJ)
              have P10 := Lib.hid o1
              clear o1 a1 f1 P9 K9
              generalize w9.setCell ⟨w2.heap.size, K, none⟩ (.int .i64 yJ) = w10 at *
              refine wpAnyZ_ready (rs := [14]) (by kernel_rfl) (by simp) ?_
              refine AllReadyZ.last (by simp) (o := ⟨some 60, _, _, _, _, _⟩) rfl (fun Kx hK => ?_) AllReadyZ.nil
              go_simp
              refine hK.out _ _ ?_
              clear hK Kx
              try simp only [Act.put, List.setIfInBounds_toArray, List.set_cons_zero, List.set_cons_succ]
              obtain ⟨⟨u2, a2⟩, f2, o2⟩ := P10.out.put (by rw [List.length_set]; exact hlen) hJN yK
              refine wpAnyZ_ready (rs := [15]) (by kernel_rfl) (by simp) ?_
              refine AllReadyZ.last (by simp) (o := ⟨none, _, _, _, _, _⟩) rfl (fun Kx hK => ?_) AllReadyZ.nil
              go_simp
              refine hK.out _ _ ?_
              clear hK Kx
              try simp only [Act.put, List.setIfInBounds_toArray, List.set_cons_zero, List.set_cons_succ]
              have O3 := Lib.hid o2
              have K11 := K10.setCell (p := ⟨w2.heap.size, J, none⟩) (by simp) (.int .i64 yK)
              clear o2 a2 f2 P10 K10
              refine wpAnyZ_done (by kernel_rfl) ?_ _
              go_wp2_with fail
              go_roundw
              case rel => exact ⟨_, K, shS s L K, rfl, rfl, by omega, by rw [shS_len]; exact hlen, HR2, Lib.hid (by rw [HS.out]; exact O3.out), K11⟩
              case measure => simp [intOf]; omega
            · have hx1 : x < 1 := by omega
              have hR3 : L = R := by
                have := hR.out
                rw [show j - 1 = 0 by omega] at this
                exact this
              subst hR3
              go_wp2_with fail
              go_ret2
              exact ⟨_, rfl, hP.out.base K2.size, K2.trans kr⟩

end Go.Proofs.YtajidjckpjdebaaDoor
