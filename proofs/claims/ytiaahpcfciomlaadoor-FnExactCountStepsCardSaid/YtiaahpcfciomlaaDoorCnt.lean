/-
  CountSteps of both sides. Nothing that was there is changed. The named variables hold what the program's text lays.
-/
import Derived.Test.YtiaahpcfciomlaaDoorUnL
import Derived.Test.YtiaahpcfciomlaaDoorUnH
import Derived.StillTailTactics
namespace Go.Proofs.YtiaahpcfciomlaaDoor
open Go.RowKit

theorem keepz15 {W0 w w1 : World} {p0 p1 p2 p3 p4 p5 p6 p7 p8 p9 p10 p11 p12 p13 p14 : Addr} {v0 v1 v2 v3 v4 v5 v6 v7 v8 v9 v10 v11 v12 v13 v14 : Value} (k : Kp w w1) (h : w.cell? p0 = some v0 ∧ w.cell? p1 = some v1 ∧ w.cell? p2 = some v2 ∧ w.cell? p3 = some v3 ∧ w.cell? p4 = some v4 ∧ w.cell? p5 = some v5 ∧ w.cell? p6 = some v6 ∧ w.cell? p7 = some v7 ∧ w.cell? p8 = some v8 ∧ w.cell? p9 = some v9 ∧ w.cell? p10 = some v10 ∧ w.cell? p11 = some v11 ∧ w.cell? p12 = some v12 ∧ w.cell? p13 = some v13 ∧ w.cell? p14 = some v14 ∧ Kp W0 w) : w1.cell? p0 = some v0 ∧ w1.cell? p1 = some v1 ∧ w1.cell? p2 = some v2 ∧ w1.cell? p3 = some v3 ∧ w1.cell? p4 = some v4 ∧ w1.cell? p5 = some v5 ∧ w1.cell? p6 = some v6 ∧ w1.cell? p7 = some v7 ∧ w1.cell? p8 = some v8 ∧ w1.cell? p9 = some v9 ∧ w1.cell? p10 = some v10 ∧ w1.cell? p11 = some v11 ∧ w1.cell? p12 = some v12 ∧ w1.cell? p13 = some v13 ∧ w1.cell? p14 = some v14 ∧ Kp W0 w1 :=
  ⟨k.cell h.1, k.cell h.2.1, k.cell h.2.2.1, k.cell h.2.2.2.1, k.cell h.2.2.2.2.1, k.cell h.2.2.2.2.2.1, k.cell h.2.2.2.2.2.2.1, k.cell h.2.2.2.2.2.2.2.1, k.cell h.2.2.2.2.2.2.2.2.1, k.cell h.2.2.2.2.2.2.2.2.2.1, k.cell h.2.2.2.2.2.2.2.2.2.2.1, k.cell h.2.2.2.2.2.2.2.2.2.2.2.1, k.cell h.2.2.2.2.2.2.2.2.2.2.2.2.1, k.cell h.2.2.2.2.2.2.2.2.2.2.2.2.2.1, k.cell h.2.2.2.2.2.2.2.2.2.2.2.2.2.2.1, h.2.2.2.2.2.2.2.2.2.2.2.2.2.2.2.trans k⟩
theorem drewz15 {W0 w : World} {p0 p1 p2 p3 p4 p5 p6 p7 p8 p9 p10 p11 p12 p13 p14 : Addr} {v0 v1 v2 v3 v4 v5 v6 v7 v8 v9 v10 v11 v12 v13 v14 : Value} (h : w.cell? p0 = some v0 ∧ w.cell? p1 = some v1 ∧ w.cell? p2 = some v2 ∧ w.cell? p3 = some v3 ∧ w.cell? p4 = some v4 ∧ w.cell? p5 = some v5 ∧ w.cell? p6 = some v6 ∧ w.cell? p7 = some v7 ∧ w.cell? p8 = some v8 ∧ w.cell? p9 = some v9 ∧ w.cell? p10 = some v10 ∧ w.cell? p11 = some v11 ∧ w.cell? p12 = some v12 ∧ w.cell? p13 = some v13 ∧ w.cell? p14 = some v14 ∧ Kp W0 w) : w.drew.cell? p0 = some v0 ∧ w.drew.cell? p1 = some v1 ∧ w.drew.cell? p2 = some v2 ∧ w.drew.cell? p3 = some v3 ∧ w.drew.cell? p4 = some v4 ∧ w.drew.cell? p5 = some v5 ∧ w.drew.cell? p6 = some v6 ∧ w.drew.cell? p7 = some v7 ∧ w.drew.cell? p8 = some v8 ∧ w.drew.cell? p9 = some v9 ∧ w.drew.cell? p10 = some v10 ∧ w.drew.cell? p11 = some v11 ∧ w.drew.cell? p12 = some v12 ∧ w.drew.cell? p13 = some v13 ∧ w.drew.cell? p14 = some v14 ∧ Kp W0 w.drew :=
  ⟨h.1, h.2.1, h.2.2.1, h.2.2.2.1, h.2.2.2.2.1, h.2.2.2.2.2.1, h.2.2.2.2.2.2.1, h.2.2.2.2.2.2.2.1, h.2.2.2.2.2.2.2.2.1, h.2.2.2.2.2.2.2.2.2.1, h.2.2.2.2.2.2.2.2.2.2.1, h.2.2.2.2.2.2.2.2.2.2.2.1, h.2.2.2.2.2.2.2.2.2.2.2.2.1, h.2.2.2.2.2.2.2.2.2.2.2.2.2.1, h.2.2.2.2.2.2.2.2.2.2.2.2.2.2.1, h.2.2.2.2.2.2.2.2.2.2.2.2.2.2.2.drew⟩

theorem take_succ_at' {L : List Int} {q : Nat} {x : Int} (h : L[q]? = some x) : L.take (q + 1) = L.take q ++ [x] := by
  obtain ⟨hq, rfl⟩ := List.getElem?_eq_some_iff.1 h
  exact List.take_succ_eq_append_getElem hq
theorem stp_bd {l : List Ter} {m : List Knd} {W H : Int} {lt : List Int} {us : List Uni} (hm : ∀ k ∈ m, k.stp ≤ 4) (hu : ∀ u ∈ us, uniOk l m W H lt u = true) (M : List Int) : 0 ≤ sumU stpU us M ∧ sumU stpU us M ≤ 4 * (M.length : Int) :=
  sumU_bd (by omega) (fun u h => by
    obtain ⟨_, h2, h3, _⟩ := uniOk_side (hu u h)
    obtain ⟨j, kd, _, _, hk, es, _⟩ := knd_of h2.1 h2.2
    have := hm kd (List.mem_of_getElem? hk)
    rw [es] at h3
    unfold stpU
    omega) M
theorem stp_four {r : Rul} {W H : Int} {lt lr ld : List Int} (hok : brdOk r W H lt lr ld = true) : ∀ k ∈ r.knds, k.stp ≤ 4 := fun k h => by
  simp only [brdOk, rulOk, Bool.and_eq_true, List.all_eq_true] at hok
  have hk := hok.1.1.2.2.1 k h
  simp only [numK, spB, Bool.and_eq_true, decide_eq_true_iff] at hk
  omega
theorem side_cong {l : List Ter} {m : List Knd} {W H : Int} {lt : List Int} {us : List Uni} (hu : ∀ u ∈ us, uniOk l m W H lt u = true) (s : Int) (k : Nat) : unL (ofSide0 s) us k = unL (ofSide s) us k :=
  unL_cong (fun u h => by
    have := (uniOk_side (hu u h)).2.2.2
    unfold ofSide0 ofSide
    congr 1
    rw [Bool.eq_iff_iff]
    simp
    omega) k

set_option maxRecDepth 100000 in
theorem sSteps_any (T Z : Int) (u : Value) (us : List Uni) (sd : Int) (w : World) (h : StaAt w u us) (hn : us.length ≤ 12) (hsb : ∀ M : List Int, 0 ≤ sumU stpU us M ∧ sumU stpU us M ≤ 4 * (M.length : Int)) :
    Calls Tryd.prog 47 #[sv T Z u, .int .i64 sd] w fun e w' => e = .returned (.int .i64 (sumU stpU us (unL (ofSide0 sd) us us.length))) ∧ Kp w w' := by
  obtain ⟨A, cp, rfl, hA⟩ := h.rd
  have HSB := Lib.hid hsb
  obtain ⟨N, hN⟩ : ∃ N, us.length = N := ⟨_, rfl⟩
  have HN := Lib.hid hN
  have KA : Kp w (w.alloc (.cells #[.int .i64 T, .int .i64 Z, .slice A us.length cp] 48)) := (Kp.refl w).alloc _
  have s0 : (w.alloc (.cells #[.int .i64 T, .int .i64 Z, .slice A us.length cp] 48)).cell? ⟨w.heap.size, 2, none⟩ = some (.slice A us.length cp) := by simp [go_sem]
  obtain ⟨L, hL⟩ : ∃ L, L = unL (ofSide0 sd) us us.length := ⟨_, rfl⟩
  have hLn : L.length ≤ 12 := by rw [hL]; have := unL_len (ofSide0 sd) us us.length; omega
  have HLm : Hid (∀ x ∈ L, ∃ (j : Nat) (u : Uni), x = j ∧ us[j]? = some u) := Lib.hid fun x hx => by
    rw [hL] at hx
    obtain ⟨j, u, _, e, h, _⟩ := unL_mem hx
    exact ⟨j, u, e, h⟩
  have CA : Hid (∀ w, StaAt w (.slice A us.length cp) us → Calls Tryd.prog 69 #[sv T Z (.slice A us.length cp), .int .i64 sd] w fun e w' => ∃ v, e = .returned v ∧ OwnI w' w.heap.size v L ∧ Kp w w') := Lib.hid fun w h => by
    rw [hL]
    exact sOf_any T Z _ us sd w h hn
  have HS := Lib.hid h
  rw [← hL]
  rw [hN] at hA KA s0 CA HS hn ⊢
  have HA := Lib.hid hA
  clear h hA hN hL hsb
  go_enter Tryd.func47, Tryd.ntmps47
  go_wp2_with fail
  refine (CA.out _ (HS.out.keep KA)).mono ?_
  rintro e1 w1 ⟨v, rfl, o1, k1⟩
  have s1 := k1.cell s0
  have K1 : Kp w w1 := KA.trans k1
  obtain ⟨Av, cv, rfl, hv⟩ := o1.rd
  obtain ⟨n, hn'⟩ : ∃ n, L.length = n := ⟨_, rfl⟩
  rw [hn'] at hv hLn ⊢
  have HV2 := Lib.hid hv
  have HN2 := Lib.hid hn'
  clear s0 k1 o1 hv hn' KA
  go_wp2_with fail
  go_loop [5, 12] (fun acc iq => ∃ q : Nat, q ≤ n ∧ iq = .int .i64 q ∧ acc = .int .i64 (sumU stpU us (L.take q))) (fun _ iq => n - (intOf iq).toNat)
  case atStart => exact ⟨0, by omega, rfl, rfl⟩
  case round =>
    obtain ⟨q, hq, rfl, rfl⟩ := hrel
    have hb := HSB.out (L.take q)
    have hbl : (L.take q).length ≤ q := List.length_take_le _ _
    by_cases hlt : q < n
    · have hlt' : (q : Int) < n := by omega
      obtain ⟨gv, ov, rfl, hcv⟩ := HV2.out (by omega)
      obtain ⟨xx, hxx⟩ : ∃ z, L[q]? = some z := ⟨L[q]'(by have := HN2.out; omega), List.getElem?_eq_getElem _⟩
      have cq := hcv q xx hxx
      obtain ⟨j, u, rfl, hu⟩ := HLm.out xx (List.mem_of_getElem? hxx)
      have hjN : j < N := by have := (List.getElem?_eq_some_iff.1 hu).1; have := HN.out; omega
      have hjI : (j : Int) < N := by omega
      have hjO : ((j : Int)).toNat = j := by omega
      obtain ⟨g, off, rfl, hc⟩ := HA.out (by omega)
      obtain ⟨_, _, _, a3⟩ := (hc j u hu).keep K1
      have ES := Lib.hid (sumU_snoc (g := stpU) (us := us) (L := L.take q) hu)
      have ET := Lib.hid (take_succ_at' hxx)
      have hb2 := HSB.out (L.take (q + 1))
      have hbl2 : (L.take (q + 1)).length ≤ q + 1 := List.length_take_le _ _
      obtain ⟨tx, htx⟩ : ∃ z, u.t = z := ⟨_, rfl⟩
      rw [htx] at a3
      have HSX : Hid (sumU stpU us (L.take (q + 1)) = sumU stpU us (L.take q) + tx) := Lib.hid (by rw [ET.out, ES.out]; unfold stpU; rw [htx])
      rw [HSX.out] at hb2
      obtain ⟨acc, hacc⟩ : ∃ z, sumU stpU us (L.take q) = z := ⟨_, rfl⟩
      rw [hacc] at hb hb2 HSX ⊢
      have ea : IntKind.i64.wrap (acc + tx) = acc + tx := IntWalk.i64_in _ (by omega)
      clear hxx hu hc hcv htx ES ET hacc
      go_wp2_with fail
      go_round
      case rel => exact ⟨q + 1, by omega, by go_num, by rw [HSX.out]⟩
      case measure => simp [intOf]; omega
    · obtain rfl : q = n := by omega
      go_wp2_with fail
      go_ret
      exact ⟨ret_int (by rw [List.take_of_length_le (by rw [HN2.out]; omega)]), K1⟩

set_option maxRecDepth 100000 in
set_option maxHeartbeats 4000000 in
theorem specCountSteps_any (At Ak : Option Addr) (nt nk ct ck : Nat) (l : List Ter) (m : List Knd) (a b c d e W H : Int) (x r y : Value) (lt lr ld : List Int) (T Z : Int) (u : Value) (us : List Uni) (w : World) (hB : BrdAt w At Ak nt nk l m x r y lt lr ld) (hS : StaAt w u us) :
    Calls Tryd.prog 22 #[bv (.slice At nt ct) (.slice Ak nk ck) a b c d e W H x r y, sv T Z u] w fun e' w' => e' = .returned (.tuple #[.int .i64 (vI (brdOk ⟨l, m, a, b, c, d, e⟩ W H lt lr ld && staOk ⟨l, m, a, b, c, d, e⟩ W H lt T Z us) (sumU stpU us (unL (ofSide 0) us us.length))), .int .i64 (vI (brdOk ⟨l, m, a, b, c, d, e⟩ W H lt lr ld && staOk ⟨l, m, a, b, c, d, e⟩ W H lt T Z us) (sumU stpU us (unL (ofSide 1) us us.length))), .bool (brdOk ⟨l, m, a, b, c, d, e⟩ W H lt lr ld && staOk ⟨l, m, a, b, c, d, e⟩ W H lt T Z us)]) ∧ Kp w w' := by
  have KA : Kp w ((w.alloc (.cells #[.slice At nt ct, .slice Ak nk ck, .int .i64 a, .int .i64 b, .int .i64 c, .int .i64 d, .int .i64 e, .int .i64 W, .int .i64 H, x, r, y] 44)).alloc (.cells #[.int .i64 T, .int .i64 Z, u] 48)) := ((Kp.refl w).alloc _).alloc _
  have s0 : ((w.alloc (.cells #[.slice At nt ct, .slice Ak nk ck, .int .i64 a, .int .i64 b, .int .i64 c, .int .i64 d, .int .i64 e, .int .i64 W, .int .i64 H, x, r, y] 44)).alloc (.cells #[.int .i64 T, .int .i64 Z, u] 48)).cell? ⟨w.heap.size, 0, none⟩ = some (.slice At nt ct) ∧ ((w.alloc (.cells #[.slice At nt ct, .slice Ak nk ck, .int .i64 a, .int .i64 b, .int .i64 c, .int .i64 d, .int .i64 e, .int .i64 W, .int .i64 H, x, r, y] 44)).alloc (.cells #[.int .i64 T, .int .i64 Z, u] 48)).cell? ⟨w.heap.size, 1, none⟩ = some (.slice Ak nk ck) ∧ ((w.alloc (.cells #[.slice At nt ct, .slice Ak nk ck, .int .i64 a, .int .i64 b, .int .i64 c, .int .i64 d, .int .i64 e, .int .i64 W, .int .i64 H, x, r, y] 44)).alloc (.cells #[.int .i64 T, .int .i64 Z, u] 48)).cell? ⟨w.heap.size, 2, none⟩ = some (.int .i64 a) ∧ ((w.alloc (.cells #[.slice At nt ct, .slice Ak nk ck, .int .i64 a, .int .i64 b, .int .i64 c, .int .i64 d, .int .i64 e, .int .i64 W, .int .i64 H, x, r, y] 44)).alloc (.cells #[.int .i64 T, .int .i64 Z, u] 48)).cell? ⟨w.heap.size, 3, none⟩ = some (.int .i64 b) ∧ ((w.alloc (.cells #[.slice At nt ct, .slice Ak nk ck, .int .i64 a, .int .i64 b, .int .i64 c, .int .i64 d, .int .i64 e, .int .i64 W, .int .i64 H, x, r, y] 44)).alloc (.cells #[.int .i64 T, .int .i64 Z, u] 48)).cell? ⟨w.heap.size, 4, none⟩ = some (.int .i64 c) ∧ ((w.alloc (.cells #[.slice At nt ct, .slice Ak nk ck, .int .i64 a, .int .i64 b, .int .i64 c, .int .i64 d, .int .i64 e, .int .i64 W, .int .i64 H, x, r, y] 44)).alloc (.cells #[.int .i64 T, .int .i64 Z, u] 48)).cell? ⟨w.heap.size, 5, none⟩ = some (.int .i64 d) ∧ ((w.alloc (.cells #[.slice At nt ct, .slice Ak nk ck, .int .i64 a, .int .i64 b, .int .i64 c, .int .i64 d, .int .i64 e, .int .i64 W, .int .i64 H, x, r, y] 44)).alloc (.cells #[.int .i64 T, .int .i64 Z, u] 48)).cell? ⟨w.heap.size, 6, none⟩ = some (.int .i64 e) ∧ ((w.alloc (.cells #[.slice At nt ct, .slice Ak nk ck, .int .i64 a, .int .i64 b, .int .i64 c, .int .i64 d, .int .i64 e, .int .i64 W, .int .i64 H, x, r, y] 44)).alloc (.cells #[.int .i64 T, .int .i64 Z, u] 48)).cell? ⟨w.heap.size, 7, none⟩ = some (.int .i64 W) ∧ ((w.alloc (.cells #[.slice At nt ct, .slice Ak nk ck, .int .i64 a, .int .i64 b, .int .i64 c, .int .i64 d, .int .i64 e, .int .i64 W, .int .i64 H, x, r, y] 44)).alloc (.cells #[.int .i64 T, .int .i64 Z, u] 48)).cell? ⟨w.heap.size, 8, none⟩ = some (.int .i64 H) ∧ ((w.alloc (.cells #[.slice At nt ct, .slice Ak nk ck, .int .i64 a, .int .i64 b, .int .i64 c, .int .i64 d, .int .i64 e, .int .i64 W, .int .i64 H, x, r, y] 44)).alloc (.cells #[.int .i64 T, .int .i64 Z, u] 48)).cell? ⟨w.heap.size, 9, none⟩ = some (x) ∧ ((w.alloc (.cells #[.slice At nt ct, .slice Ak nk ck, .int .i64 a, .int .i64 b, .int .i64 c, .int .i64 d, .int .i64 e, .int .i64 W, .int .i64 H, x, r, y] 44)).alloc (.cells #[.int .i64 T, .int .i64 Z, u] 48)).cell? ⟨w.heap.size, 10, none⟩ = some (r) ∧ ((w.alloc (.cells #[.slice At nt ct, .slice Ak nk ck, .int .i64 a, .int .i64 b, .int .i64 c, .int .i64 d, .int .i64 e, .int .i64 W, .int .i64 H, x, r, y] 44)).alloc (.cells #[.int .i64 T, .int .i64 Z, u] 48)).cell? ⟨w.heap.size, 11, none⟩ = some (y) ∧ ((w.alloc (.cells #[.slice At nt ct, .slice Ak nk ck, .int .i64 a, .int .i64 b, .int .i64 c, .int .i64 d, .int .i64 e, .int .i64 W, .int .i64 H, x, r, y] 44)).alloc (.cells #[.int .i64 T, .int .i64 Z, u] 48)).cell? ⟨w.heap.size + 1, 0, none⟩ = some (.int .i64 T) ∧ ((w.alloc (.cells #[.slice At nt ct, .slice Ak nk ck, .int .i64 a, .int .i64 b, .int .i64 c, .int .i64 d, .int .i64 e, .int .i64 W, .int .i64 H, x, r, y] 44)).alloc (.cells #[.int .i64 T, .int .i64 Z, u] 48)).cell? ⟨w.heap.size + 1, 1, none⟩ = some (.int .i64 Z) ∧ ((w.alloc (.cells #[.slice At nt ct, .slice Ak nk ck, .int .i64 a, .int .i64 b, .int .i64 c, .int .i64 d, .int .i64 e, .int .i64 W, .int .i64 H, x, r, y] 44)).alloc (.cells #[.int .i64 T, .int .i64 Z, u] 48)).cell? ⟨w.heap.size + 1, 2, none⟩ = some (u) ∧ Kp w ((w.alloc (.cells #[.slice At nt ct, .slice Ak nk ck, .int .i64 a, .int .i64 b, .int .i64 c, .int .i64 d, .int .i64 e, .int .i64 W, .int .i64 H, x, r, y] 44)).alloc (.cells #[.int .i64 T, .int .i64 Z, u] 48)) := ⟨by simp [go_sem], by simp [go_sem], by simp [go_sem], by simp [go_sem], by simp [go_sem], by simp [go_sem], by simp [go_sem], by simp [go_sem], by simp [go_sem], by simp [go_sem], by simp [go_sem], by simp [go_sem], by simp [go_sem], by simp [go_sem], by simp [go_sem], KA⟩
  have C2 := Lib.hid (sGood_any At Ak nt nk ct ck l m a b c d e W H x r y lt lr ld T Z u us _ (hB.keep KA) (hS.keep KA))
  have HS := Lib.hid hS
  cases ho : brdOk ⟨l, m, a, b, c, d, e⟩ W H lt lr ld && staOk ⟨l, m, a, b, c, d, e⟩ W H lt T Z us
  · rw [ho] at C2
    clear hB hS ho
    go_enter Tryd.func22, Tryd.ntmps22
    go_wp2_with fail
    refine C2.out.mono ?_
    rintro e1 w1 ⟨rfl, k1⟩
    go_wp2_with fail
    go_ret3
    exact ⟨rfl, KA.trans k1⟩
  rw [ho] at C2
  have hok : brdOk ⟨l, m, a, b, c, d, e⟩ W H lt lr ld = true := by
    simp only [Bool.and_eq_true] at ho
    exact ho.1
  have hst : staOk ⟨l, m, a, b, c, d, e⟩ W H lt T Z us = true := by
    simp only [Bool.and_eq_true] at ho
    exact ho.2
  obtain ⟨_, hn12, hall, _⟩ := staOk_parts hst
  have CT : ∀ sd : Int, Hid (∀ w, StaAt w u us → Calls Tryd.prog 47 #[sv T Z u, .int .i64 sd] w fun e' w' => e' = .returned (.int .i64 (sumU stpU us (unL (ofSide sd) us us.length))) ∧ Kp w w') := fun sd => Lib.hid fun w hS => by
    have := sSteps_any T Z u us sd w hS hn12 (stp_bd (stp_four hok) hall)
    rw [side_cong hall] at this
    exact this
  have CT0 := CT 0
  have CT1 := CT 1
  show Calls _ _ _ w (fun e' w' => e' = .returned (.tuple #[.int .i64 (sumU stpU us (unL (ofSide 0) us us.length)), .int .i64 (sumU stpU us (unL (ofSide 1) us us.length)), .bool true]) ∧ Kp w w')
  generalize sumU stpU us (unL (ofSide 0) us us.length) = X0 at CT0 ⊢
  generalize sumU stpU us (unL (ofSide 1) us us.length) = X1 at CT1 ⊢
  clear hB hS ho hok hst hall CT
  go_enter Tryd.func22, Tryd.ntmps22
  go_wp2_with fail
  refine C2.out.mono ?_
  rintro e1 w1 ⟨rfl, k1⟩
  have s1 := keepz15 k1 s0
  clear s0 k1
  go_wp2_with fail
  have s2 := drewz15 s1
  refine wp_region_held_drew (S := (fun w' => w'.cell? ⟨w.heap.size, 0, none⟩ = some (.slice At nt ct) ∧ w'.cell? ⟨w.heap.size, 1, none⟩ = some (.slice Ak nk ck) ∧ w'.cell? ⟨w.heap.size, 2, none⟩ = some (.int .i64 a) ∧ w'.cell? ⟨w.heap.size, 3, none⟩ = some (.int .i64 b) ∧ w'.cell? ⟨w.heap.size, 4, none⟩ = some (.int .i64 c) ∧ w'.cell? ⟨w.heap.size, 5, none⟩ = some (.int .i64 d) ∧ w'.cell? ⟨w.heap.size, 6, none⟩ = some (.int .i64 e) ∧ w'.cell? ⟨w.heap.size, 7, none⟩ = some (.int .i64 W) ∧ w'.cell? ⟨w.heap.size, 8, none⟩ = some (.int .i64 H) ∧ w'.cell? ⟨w.heap.size, 9, none⟩ = some (x) ∧ w'.cell? ⟨w.heap.size, 10, none⟩ = some (r) ∧ w'.cell? ⟨w.heap.size, 11, none⟩ = some (y) ∧ w'.cell? ⟨w.heap.size + 1, 0, none⟩ = some (.int .i64 T) ∧ w'.cell? ⟨w.heap.size + 1, 1, none⟩ = some (.int .i64 Z) ∧ w'.cell? ⟨w.heap.size + 1, 2, none⟩ = some (u) ∧ Kp w w')) (by kernel_rfl) ?_ (fun hHeld => ?_)
  · exact s2
  refine wpAnyH_take (i := 0) (oi := ⟨some 11, _, _, _, _, _⟩) (v := ?_) rfl (by kernel_rfl) (by kernel_rfl) (by kernel_rfl) (fun _ _ _ h => h) (Or.inl ⟨by rfl, ?_⟩) (by assumption) ?_
  rotate_left
  · intro w hSw; (try dsimp only at hSw); go_simp; (all_goals with_reducible rfl)
  simp only [Act.put, List.setIfInBounds_toArray, List.set_cons_zero, List.set_cons_succ]
  refine wpAnyH_take (i := 2) (oi := ⟨some 13, _, _, _, _, _⟩) (v := ?_) rfl (by kernel_rfl) (by kernel_rfl) (by kernel_rfl) (fun _ _ _ h => h) (Or.inl ⟨by rfl, ?_⟩) (by assumption) ?_
  rotate_left
  · intro w hSw; (try dsimp only at hSw); go_simp; (all_goals with_reducible rfl)
  simp only [Act.put, List.setIfInBounds_toArray, List.set_cons_zero, List.set_cons_succ]
  refine wpAnyH_ready (rs := [1]) (by kernel_rfl) (by simp) ?_
  refine AllReadyH.cons (o := ⟨some 12, _, _, _, _, _⟩) rfl (fun K hK => ?_) AllReadyH.nil
  go_simp
  refine (CT0.out _ (HS.out.keep hHeld.2.2.2.2.2.2.2.2.2.2.2.2.2.2.2)).mono ?_; rintro e3 w3 ⟨rfl, k3⟩; have s3 := keepz15 k3 hHeld
  go_wp2_with fail
  refine hK.out _ _ ?_ (fun hHeld => ?_)
  · (try dsimp only); (first | assumption | exact s4 | exact s3 | exact s2)
  clear hK K
  try simp only [Act.put, List.setIfInBounds_toArray, List.set_cons_zero, List.set_cons_succ]
  refine wpAnyH_ready (rs := [3]) (by kernel_rfl) (by simp) ?_
  refine AllReadyH.cons (o := ⟨some 14, _, _, _, _, _⟩) rfl (fun K hK => ?_) AllReadyH.nil
  go_simp
  refine (CT1.out _ (HS.out.keep hHeld.2.2.2.2.2.2.2.2.2.2.2.2.2.2.2)).mono ?_; rintro e4 w4 ⟨rfl, k4⟩; have s4 := keepz15 k4 hHeld
  go_wp2_with fail
  refine hK.out _ _ ?_ (fun hHeld => ?_)
  · (try dsimp only); (first | assumption | exact s4 | exact s3 | exact s2)
  clear hK K
  try simp only [Act.put, List.setIfInBounds_toArray, List.set_cons_zero, List.set_cons_succ]
  refine wpAnyH_take (i := 4) (oi := ⟨some 4, _, _, _, _, _⟩) (v := ?_) rfl (by kernel_rfl) (by kernel_rfl) (by kernel_rfl) (fun _ _ _ h => h) (Or.inl ⟨by rfl, ?_⟩) (by assumption) ?_
  rotate_left
  · intro w hSw; (try dsimp only at hSw); go_simp; (all_goals with_reducible rfl)
  simp only [Act.put, List.setIfInBounds_toArray, List.set_cons_zero, List.set_cons_succ]
  refine wpAnyH_take (i := 5) (oi := ⟨some 5, _, _, _, _, _⟩) (v := ?_) rfl (by kernel_rfl) (by kernel_rfl) (by kernel_rfl) (fun _ _ _ h => h) (Or.inl ⟨by rfl, ?_⟩) (by assumption) ?_
  rotate_left
  · intro w hSw; (try dsimp only at hSw); go_simp; (all_goals with_reducible rfl)
  simp only [Act.put, List.setIfInBounds_toArray, List.set_cons_zero, List.set_cons_succ]
  refine wpAnyH_take (i := 6) (oi := ⟨some 6, _, _, _, _, _⟩) (v := ?_) rfl (by kernel_rfl) (by kernel_rfl) (by kernel_rfl) (fun _ _ _ h => h) (Or.inl ⟨by rfl, ?_⟩) (by assumption) ?_
  rotate_left
  · intro w hSw; (try dsimp only at hSw); go_simp; (all_goals with_reducible rfl)
  simp only [Act.put, List.setIfInBounds_toArray, List.set_cons_zero, List.set_cons_succ]
  refine wpAnyH_done (by kernel_rfl) ?_ _
  go_wp2_with fail
  go_ret3
  exact ⟨rfl, hHeld.2.2.2.2.2.2.2.2.2.2.2.2.2.2.2⟩

set_option maxRecDepth 100000 in
set_option maxHeartbeats 4000000 in
theorem count_go (At Ak : Option Addr) (nt nk ct ck : Nat) (l : List Ter) (m : List Knd) (a b c d e W H : Int) (x r y : Value) (lt lr ld : List Int) (T Z : Int) (A : Option Addr) (N cp : Nat) (us : List Uni) (w : World) (hs : Spans w) (ht : Tab w) (hu : SpU w) (hB : BrdAt w At Ak nt nk l m x r y lt lr ld) (hS : StaAt w (.slice A N cp) us) (hN : us.length = N) (ho : (brdOk ⟨l, m, a, b, c, d, e⟩ W H lt lr ld && staOk ⟨l, m, a, b, c, d, e⟩ W H lt T Z us) = true) :
    Calls Tryd.prog 23 #[bv (.slice At nt ct) (.slice Ak nk ck) a b c d e W H x r y, sv T Z (.slice A N cp)] w fun e' w' => e' = .returned (.tuple #[.int .i64 (sumU stpU us (unL (ofSide 0) us us.length)), .int .i64 (sumU stpU us (unL (ofSide 1) us us.length)), .bool true]) ∧ Kp w w' := by
  have KA : Kp w ((w.alloc (.cells #[.slice At nt ct, .slice Ak nk ck, .int .i64 a, .int .i64 b, .int .i64 c, .int .i64 d, .int .i64 e, .int .i64 W, .int .i64 H, x, r, y] 44)).alloc (.cells #[.int .i64 T, .int .i64 Z, .slice A N cp] 48)) := ((Kp.refl w).alloc _).alloc _
  have s0 : ((w.alloc (.cells #[.slice At nt ct, .slice Ak nk ck, .int .i64 a, .int .i64 b, .int .i64 c, .int .i64 d, .int .i64 e, .int .i64 W, .int .i64 H, x, r, y] 44)).alloc (.cells #[.int .i64 T, .int .i64 Z, .slice A N cp] 48)).cell? ⟨w.heap.size, 0, none⟩ = some (.slice At nt ct) ∧ ((w.alloc (.cells #[.slice At nt ct, .slice Ak nk ck, .int .i64 a, .int .i64 b, .int .i64 c, .int .i64 d, .int .i64 e, .int .i64 W, .int .i64 H, x, r, y] 44)).alloc (.cells #[.int .i64 T, .int .i64 Z, .slice A N cp] 48)).cell? ⟨w.heap.size, 1, none⟩ = some (.slice Ak nk ck) ∧ ((w.alloc (.cells #[.slice At nt ct, .slice Ak nk ck, .int .i64 a, .int .i64 b, .int .i64 c, .int .i64 d, .int .i64 e, .int .i64 W, .int .i64 H, x, r, y] 44)).alloc (.cells #[.int .i64 T, .int .i64 Z, .slice A N cp] 48)).cell? ⟨w.heap.size, 2, none⟩ = some (.int .i64 a) ∧ ((w.alloc (.cells #[.slice At nt ct, .slice Ak nk ck, .int .i64 a, .int .i64 b, .int .i64 c, .int .i64 d, .int .i64 e, .int .i64 W, .int .i64 H, x, r, y] 44)).alloc (.cells #[.int .i64 T, .int .i64 Z, .slice A N cp] 48)).cell? ⟨w.heap.size, 3, none⟩ = some (.int .i64 b) ∧ ((w.alloc (.cells #[.slice At nt ct, .slice Ak nk ck, .int .i64 a, .int .i64 b, .int .i64 c, .int .i64 d, .int .i64 e, .int .i64 W, .int .i64 H, x, r, y] 44)).alloc (.cells #[.int .i64 T, .int .i64 Z, .slice A N cp] 48)).cell? ⟨w.heap.size, 4, none⟩ = some (.int .i64 c) ∧ ((w.alloc (.cells #[.slice At nt ct, .slice Ak nk ck, .int .i64 a, .int .i64 b, .int .i64 c, .int .i64 d, .int .i64 e, .int .i64 W, .int .i64 H, x, r, y] 44)).alloc (.cells #[.int .i64 T, .int .i64 Z, .slice A N cp] 48)).cell? ⟨w.heap.size, 5, none⟩ = some (.int .i64 d) ∧ ((w.alloc (.cells #[.slice At nt ct, .slice Ak nk ck, .int .i64 a, .int .i64 b, .int .i64 c, .int .i64 d, .int .i64 e, .int .i64 W, .int .i64 H, x, r, y] 44)).alloc (.cells #[.int .i64 T, .int .i64 Z, .slice A N cp] 48)).cell? ⟨w.heap.size, 6, none⟩ = some (.int .i64 e) ∧ ((w.alloc (.cells #[.slice At nt ct, .slice Ak nk ck, .int .i64 a, .int .i64 b, .int .i64 c, .int .i64 d, .int .i64 e, .int .i64 W, .int .i64 H, x, r, y] 44)).alloc (.cells #[.int .i64 T, .int .i64 Z, .slice A N cp] 48)).cell? ⟨w.heap.size, 7, none⟩ = some (.int .i64 W) ∧ ((w.alloc (.cells #[.slice At nt ct, .slice Ak nk ck, .int .i64 a, .int .i64 b, .int .i64 c, .int .i64 d, .int .i64 e, .int .i64 W, .int .i64 H, x, r, y] 44)).alloc (.cells #[.int .i64 T, .int .i64 Z, .slice A N cp] 48)).cell? ⟨w.heap.size, 8, none⟩ = some (.int .i64 H) ∧ ((w.alloc (.cells #[.slice At nt ct, .slice Ak nk ck, .int .i64 a, .int .i64 b, .int .i64 c, .int .i64 d, .int .i64 e, .int .i64 W, .int .i64 H, x, r, y] 44)).alloc (.cells #[.int .i64 T, .int .i64 Z, .slice A N cp] 48)).cell? ⟨w.heap.size, 9, none⟩ = some (x) ∧ ((w.alloc (.cells #[.slice At nt ct, .slice Ak nk ck, .int .i64 a, .int .i64 b, .int .i64 c, .int .i64 d, .int .i64 e, .int .i64 W, .int .i64 H, x, r, y] 44)).alloc (.cells #[.int .i64 T, .int .i64 Z, .slice A N cp] 48)).cell? ⟨w.heap.size, 10, none⟩ = some (r) ∧ ((w.alloc (.cells #[.slice At nt ct, .slice Ak nk ck, .int .i64 a, .int .i64 b, .int .i64 c, .int .i64 d, .int .i64 e, .int .i64 W, .int .i64 H, x, r, y] 44)).alloc (.cells #[.int .i64 T, .int .i64 Z, .slice A N cp] 48)).cell? ⟨w.heap.size, 11, none⟩ = some (y) ∧ ((w.alloc (.cells #[.slice At nt ct, .slice Ak nk ck, .int .i64 a, .int .i64 b, .int .i64 c, .int .i64 d, .int .i64 e, .int .i64 W, .int .i64 H, x, r, y] 44)).alloc (.cells #[.int .i64 T, .int .i64 Z, .slice A N cp] 48)).cell? ⟨w.heap.size + 1, 0, none⟩ = some (.int .i64 T) ∧ ((w.alloc (.cells #[.slice At nt ct, .slice Ak nk ck, .int .i64 a, .int .i64 b, .int .i64 c, .int .i64 d, .int .i64 e, .int .i64 W, .int .i64 H, x, r, y] 44)).alloc (.cells #[.int .i64 T, .int .i64 Z, .slice A N cp] 48)).cell? ⟨w.heap.size + 1, 1, none⟩ = some (.int .i64 Z) ∧ ((w.alloc (.cells #[.slice At nt ct, .slice Ak nk ck, .int .i64 a, .int .i64 b, .int .i64 c, .int .i64 d, .int .i64 e, .int .i64 W, .int .i64 H, x, r, y] 44)).alloc (.cells #[.int .i64 T, .int .i64 Z, .slice A N cp] 48)).cell? ⟨w.heap.size + 1, 2, none⟩ = some (.slice A N cp) ∧ Kp w ((w.alloc (.cells #[.slice At nt ct, .slice Ak nk ck, .int .i64 a, .int .i64 b, .int .i64 c, .int .i64 d, .int .i64 e, .int .i64 W, .int .i64 H, x, r, y] 44)).alloc (.cells #[.int .i64 T, .int .i64 Z, .slice A N cp] 48)) := ⟨by simp [go_sem], by simp [go_sem], by simp [go_sem], by simp [go_sem], by simp [go_sem], by simp [go_sem], by simp [go_sem], by simp [go_sem], by simp [go_sem], by simp [go_sem], by simp [go_sem], by simp [go_sem], by simp [go_sem], by simp [go_sem], by simp [go_sem], KA⟩
  have C1 := Lib.hid (isStateOn_any At Ak nt nk ct ck l m a b c d e W H x r y lt lr ld T Z (.slice A N cp) us _ (hs.keep KA) (ht.keep KA) (hu.keep KA) (hB.keep KA) (hS.keep KA))
  rw [ho] at C1
  have hok : brdOk ⟨l, m, a, b, c, d, e⟩ W H lt lr ld = true := by
    simp only [Bool.and_eq_true] at ho
    exact ho.1
  have hst : staOk ⟨l, m, a, b, c, d, e⟩ W H lt T Z us = true := by
    simp only [Bool.and_eq_true] at ho
    exact ho.2
  obtain ⟨_, hn12, hall, _⟩ := staOk_parts hst
  have HSB := Lib.hid (stp_bd (stp_four hok) hall)
  have HN := Lib.hid hN
  have HA : Hid (0 < N → ∃ g off, A = some ⟨g, off, none⟩ ∧ ∀ i x, us[i]? = some x → UniAt w g (off + i * 4) x) := Lib.hid (by
    obtain ⟨A', c', e', h'⟩ := hS.rd
    simp only [Value.slice.injEq] at e'
    obtain ⟨rfl, _, rfl⟩ := e'
    rw [hN] at h'
    exact h')
  have HSD : Hid (∀ x ∈ us, x.s = 0 ∨ x.s = 1) := Lib.hid fun x hx => (uniOk_side (hall x hx)).1
  rw [hN]
  have hn12' : N ≤ 12 := by omega
  clear hs ht hu hB hS hN ho hok hst hall
  go_enter Tryd.func23, Tryd.ntmps23
  go_wp2_with fail
  refine C1.out.mono ?_
  rintro e1 w1 ⟨rfl, k1⟩
  have s1 := keepz15 k1 s0
  have K0 : Kp w (w1.alloc (.cells #[.int .i64 0, .int .i64 0] 74)) := s1.2.2.2.2.2.2.2.2.2.2.2.2.2.2.2.alloc _
  have L0 : Lv (w1.alloc (.cells #[.int .i64 0, .int .i64 0] 74)) w1.heap.size (.int .i64 0) (.int .i64 0) := ⟨⟨by simp [go_sem], by simp [go_sem]⟩, ⟨by simp [go_sem], by simp [go_sem]⟩⟩
  have hz1 : w.heap.size ≤ w1.heap.size := s1.2.2.2.2.2.2.2.2.2.2.2.2.2.2.2.size
  have hzs := cell_lt s1.2.2.2.2.2.2.2.2.2.2.2.2.1
  clear s0 k1
  go_wp2_with fail
  go_loopw [17] (fun iq wx => ∃ q : Nat, q ≤ N ∧ iq = .int .i64 q ∧ Lv wx w1.heap.size (.int .i64 (sumU stpU us (unL (ofSide 0) us q))) (.int .i64 (sumU stpU us (unL (ofSide 1) us q))) ∧ Kp w wx) (fun iq _ => N - (intOf iq).toNat)
  case atStart => exact ⟨0, by omega, rfl, L0, K0⟩
  case round =>
    clear L0 K0 s1
    obtain ⟨q, hq, rfl, lr, kr⟩ := hrel
    have hz := cell_lt lr.1.1
    by_cases hlt : q < N
    · have hlt' : (q : Int) < N := by omega
      obtain ⟨g, off, rfl, hc⟩ := HA.out (by omega)
      obtain ⟨sx, kx, ax, tx, hx⟩ := uni_get HN.out hlt
      obtain ⟨a0, a1, a2, a3⟩ := (hc q _ hx).keep kr
      have hsd := HSD.out _ (List.mem_of_getElem? hx)
      simp only at a0 a1 a2 a3 hsd
      clear hc
      by_cases ha : ax = -1
      · subst ha
        clear hsd
        have HX0 : Hid (sumU stpU us (unL (ofSide 0) us (q + 1)) = sumU stpU us (unL (ofSide 0) us q)) := Lib.hid (by rw [unL_no hx (by simp [ofSide])])
        have HX1 : Hid (sumU stpU us (unL (ofSide 1) us (q + 1)) = sumU stpU us (unL (ofSide 1) us q)) := Lib.hid (by rw [unL_no hx (by simp [ofSide])])
        clear hx
        go_wp2_with fail
        refine (onMap_no _ _ _ _).mono ?_
        rintro e4 w4 ⟨rfl, k4⟩
        have hL4 := ((Kp.refl wr).alloc (.cells #[.int .i64 sx, .int .i64 kx, .int .i64 (-1), .int .i64 tx] 84)).trans k4
        have l4 : Lv w4 w1.heap.size _ _ := ⟨hL4.liv lr.1, hL4.liv lr.2⟩
        clear k4
        go_wp2_with fail
        go_roundw
        case rel => exact ⟨q + 1, by omega, by go_num, by rw [HX0.out, HX1.out]; exact l4, kr.trans hL4⟩
        case measure => simp [intOf]; omega
      · obtain ⟨x0, hx0⟩ : ∃ z, sumU stpU us (unL (ofSide 0) us q) = z := ⟨_, rfl⟩
        obtain ⟨x1, hx1⟩ : ∃ z, sumU stpU us (unL (ofSide 1) us q) = z := ⟨_, rfl⟩
        have b0 := HSB.out (unL (ofSide 0) us q)
        have b1 := HSB.out (unL (ofSide 1) us q)
        have bl0 := unL_len (ofSide 0) us q
        have bl1 := unL_len (ofSide 1) us q
        rw [hx0] at lr b0
        rw [hx1] at lr b1
        rcases hsd with rfl | rfl
        · have HX0 : Hid (sumU stpU us (unL (ofSide 0) us (q + 1)) = x0 + tx) := Lib.hid (by rw [unL_yes hx (by simp [ofSide, ha]), sumU_snoc hx, hx0]; rfl)
          have HX1 : Hid (sumU stpU us (unL (ofSide 1) us (q + 1)) = x1) := Lib.hid (by rw [unL_no hx (by simp [ofSide]), hx1])
          have hb2 := HSB.out (unL (ofSide 0) us (q + 1))
          have hbl2 := unL_len (ofSide 0) us (q + 1)
          rw [HX0.out] at hb2
          have ea : IntKind.i64.wrap (x0 + tx) = x0 + tx := IntWalk.i64_in _ (by omega)
          clear hx hx0 hx1
          go_wp2_with fail
          refine (onMap_yes _ _ _ _ _ ha).mono ?_
          rintro e4 w4 ⟨rfl, k4⟩
          have hL4 := ((Kp.refl wr).alloc (.cells #[.int .i64 0, .int .i64 kx, .int .i64 ax, .int .i64 tx] 84)).trans k4
          have l4 : Lv w4 w1.heap.size _ _ := ⟨hL4.liv lr.1, hL4.liv lr.2⟩
          have u0 : w4.cell? ⟨wr.heap.size, 0, none⟩ = some (.int .i64 0) := k4.cell (by simp [go_sem])
          have u3 : w4.cell? ⟨wr.heap.size, 3, none⟩ = some (.int .i64 tx) := k4.cell (by simp [go_sem])
          have K4 := kr.trans hL4
          clear k4 hL4
          go_wp2_with fail
          go_still_tail 8, (by kernel_rfl)
          change wpList _ _ _ _ _ w4.drew
          have l5 : Lv w4.drew w1.heap.size _ _ := l4
          have K5 : Kp w w4.drew := K4.drew
          generalize w4.drew = w5 at *
          have hz5 := cell_lt l5.1.1
          go_wp2_with fail
          go_roundw
          case rel =>
            refine ⟨q + 1, by omega, by go_num, ?_, K5.setCell (by simp <;> omega) _⟩
            rw [HX0.out, HX1.out]
            exact ⟨⟨by simp [go_sem, *], by simp [go_sem, *]⟩, ⟨by simp [go_sem, *], by simp [go_sem, *]⟩⟩
          case measure => simp [intOf]; omega
        · have HX1 : Hid (sumU stpU us (unL (ofSide 1) us (q + 1)) = x1 + tx) := Lib.hid (by rw [unL_yes hx (by simp [ofSide, ha]), sumU_snoc hx, hx1]; rfl)
          have HX0 : Hid (sumU stpU us (unL (ofSide 0) us (q + 1)) = x0) := Lib.hid (by rw [unL_no hx (by simp [ofSide]), hx0])
          have hb2 := HSB.out (unL (ofSide 1) us (q + 1))
          have hbl2 := unL_len (ofSide 1) us (q + 1)
          rw [HX1.out] at hb2
          have ea : IntKind.i64.wrap (x1 + tx) = x1 + tx := IntWalk.i64_in _ (by omega)
          clear hx hx0 hx1
          go_wp2_with fail
          refine (onMap_yes _ _ _ _ _ ha).mono ?_
          rintro e4 w4 ⟨rfl, k4⟩
          have hL4 := ((Kp.refl wr).alloc (.cells #[.int .i64 1, .int .i64 kx, .int .i64 ax, .int .i64 tx] 84)).trans k4
          have l4 : Lv w4 w1.heap.size _ _ := ⟨hL4.liv lr.1, hL4.liv lr.2⟩
          have u0 : w4.cell? ⟨wr.heap.size, 0, none⟩ = some (.int .i64 1) := k4.cell (by simp [go_sem])
          have u3 : w4.cell? ⟨wr.heap.size, 3, none⟩ = some (.int .i64 tx) := k4.cell (by simp [go_sem])
          have K4 := kr.trans hL4
          clear k4 hL4
          go_wp2_with fail
          go_still_tail 8, (by kernel_rfl)
          change wpList _ _ _ _ _ w4.drew
          have l5 : Lv w4.drew w1.heap.size _ _ := l4
          have K5 : Kp w w4.drew := K4.drew
          generalize w4.drew = w5 at *
          have hz5 := cell_lt l5.1.1
          go_wp2_with fail
          go_roundw
          case rel =>
            refine ⟨q + 1, by omega, by go_num, ?_, K5.setCell (by simp <;> omega) _⟩
            rw [HX0.out, HX1.out]
            exact ⟨⟨by simp [go_sem, *], by simp [go_sem, *]⟩, ⟨by simp [go_sem, *], by simp [go_sem, *]⟩⟩
          case measure => simp [intOf]; omega
    · obtain rfl : q = N := by omega
      obtain ⟨x0, hx0⟩ : ∃ z, sumU stpU us (unL (ofSide 0) us q) = z := ⟨_, rfl⟩
      obtain ⟨x1, hx1⟩ : ∃ z, sumU stpU us (unL (ofSide 1) us q) = z := ⟨_, rfl⟩
      rw [hx0, hx1] at lr
      have HX0 := Lib.hid hx0
      have HX1 := Lib.hid hx1
      clear hx0 hx1
      go_wp2_with fail
      have s5 : wr.drew.cell? ⟨w1.heap.size, 0, none⟩ = some (.int .i64 x0) ∧ wr.drew.cell? ⟨w1.heap.size, 1, none⟩ = some (.int .i64 x1) ∧ Kp w wr.drew := ⟨lr.1.1, lr.2.1, kr.drew⟩
      refine wp_region_held_drew (S := (fun w' => w'.cell? ⟨w1.heap.size, 0, none⟩ = some (.int .i64 x0) ∧ w'.cell? ⟨w1.heap.size, 1, none⟩ = some (.int .i64 x1) ∧ Kp w w')) (by kernel_rfl) ?_ (fun hHeld => ?_)
      · exact s5
      refine wpAnyH_take (i := 0) (oi := ⟨some 32, _, _, _, _, _⟩) (v := ?_) rfl (by kernel_rfl) (by kernel_rfl) (by kernel_rfl) (fun _ _ _ h => h) (Or.inl ⟨by rfl, ?_⟩) (by assumption) ?_
      rotate_left
      · intro w hSw; (try dsimp only at hSw); go_simp; (all_goals with_reducible rfl)
      simp only [Act.put, List.setIfInBounds_toArray, List.set_cons_zero, List.set_cons_succ]
      refine wpAnyH_take (i := 1) (oi := ⟨some 33, _, _, _, _, _⟩) (v := ?_) rfl (by kernel_rfl) (by kernel_rfl) (by kernel_rfl) (fun _ _ _ h => h) (Or.inl ⟨by rfl, ?_⟩) (by assumption) ?_
      rotate_left
      · intro w hSw; (try dsimp only at hSw); go_simp; (all_goals with_reducible rfl)
      simp only [Act.put, List.setIfInBounds_toArray, List.set_cons_zero, List.set_cons_succ]
      refine wpAnyH_take (i := 2) (oi := ⟨some 34, _, _, _, _, _⟩) (v := ?_) rfl (by kernel_rfl) (by kernel_rfl) (by kernel_rfl) (fun _ _ _ h => h) (Or.inl ⟨by rfl, ?_⟩) (by assumption) ?_
      rotate_left
      · intro w hSw; (try dsimp only at hSw); go_simp; (all_goals with_reducible rfl)
      simp only [Act.put, List.setIfInBounds_toArray, List.set_cons_zero, List.set_cons_succ]
      refine wpAnyH_take (i := 3) (oi := ⟨some 35, _, _, _, _, _⟩) (v := ?_) rfl (by kernel_rfl) (by kernel_rfl) (by kernel_rfl) (fun _ _ _ h => h) (Or.inl ⟨by rfl, ?_⟩) (by assumption) ?_
      rotate_left
      · intro w hSw; (try dsimp only at hSw); go_simp; (all_goals with_reducible rfl)
      simp only [Act.put, List.setIfInBounds_toArray, List.set_cons_zero, List.set_cons_succ]
      refine wpAnyH_take (i := 4) (oi := ⟨some 4, _, _, _, _, _⟩) (v := ?_) rfl (by kernel_rfl) (by kernel_rfl) (by kernel_rfl) (fun _ _ _ h => h) (Or.inl ⟨by rfl, ?_⟩) (by assumption) ?_
      rotate_left
      · intro w hSw; (try dsimp only at hSw); go_simp; (all_goals with_reducible rfl)
      simp only [Act.put, List.setIfInBounds_toArray, List.set_cons_zero, List.set_cons_succ]
      refine wpAnyH_take (i := 5) (oi := ⟨some 5, _, _, _, _, _⟩) (v := ?_) rfl (by kernel_rfl) (by kernel_rfl) (by kernel_rfl) (fun _ _ _ h => h) (Or.inl ⟨by rfl, ?_⟩) (by assumption) ?_
      rotate_left
      · intro w hSw; (try dsimp only at hSw); go_simp; (all_goals with_reducible rfl)
      simp only [Act.put, List.setIfInBounds_toArray, List.set_cons_zero, List.set_cons_succ]
      refine wpAnyH_take (i := 6) (oi := ⟨some 6, _, _, _, _, _⟩) (v := ?_) rfl (by kernel_rfl) (by kernel_rfl) (by kernel_rfl) (fun _ _ _ h => h) (Or.inl ⟨by rfl, ?_⟩) (by assumption) ?_
      rotate_left
      · intro w hSw; (try dsimp only at hSw); go_simp; (all_goals with_reducible rfl)
      simp only [Act.put, List.setIfInBounds_toArray, List.set_cons_zero, List.set_cons_succ]
      refine wpAnyH_done (by kernel_rfl) ?_ _
      go_wp2_with fail
      go_ret3
      exact ⟨by rw [HX0.out, HX1.out]; rfl, hHeld.2.2⟩

set_option maxRecDepth 100000 in
set_option maxHeartbeats 4000000 in
theorem countStepsP_any (At Ak : Option Addr) (nt nk ct ck : Nat) (l : List Ter) (m : List Knd) (a b c d e W H : Int) (x r y : Value) (lt lr ld : List Int) (T Z : Int) (u : Value) (us : List Uni) (w : World) (hs : Spans w) (ht : Tab w) (hu : SpU w) (hB : BrdAt w At Ak nt nk l m x r y lt lr ld) (hS : StaAt w u us) :
    Calls Tryd.prog 23 #[bv (.slice At nt ct) (.slice Ak nk ck) a b c d e W H x r y, sv T Z u] w fun e' w' => e' = .returned (.tuple #[.int .i64 (vI (brdOk ⟨l, m, a, b, c, d, e⟩ W H lt lr ld && staOk ⟨l, m, a, b, c, d, e⟩ W H lt T Z us) (sumU stpU us (unL (ofSide 0) us us.length))), .int .i64 (vI (brdOk ⟨l, m, a, b, c, d, e⟩ W H lt lr ld && staOk ⟨l, m, a, b, c, d, e⟩ W H lt T Z us) (sumU stpU us (unL (ofSide 1) us us.length))), .bool (brdOk ⟨l, m, a, b, c, d, e⟩ W H lt lr ld && staOk ⟨l, m, a, b, c, d, e⟩ W H lt T Z us)]) ∧ Kp w w' := by
  have KA : Kp w ((w.alloc (.cells #[.slice At nt ct, .slice Ak nk ck, .int .i64 a, .int .i64 b, .int .i64 c, .int .i64 d, .int .i64 e, .int .i64 W, .int .i64 H, x, r, y] 44)).alloc (.cells #[.int .i64 T, .int .i64 Z, u] 48)) := ((Kp.refl w).alloc _).alloc _
  have s0 : ((w.alloc (.cells #[.slice At nt ct, .slice Ak nk ck, .int .i64 a, .int .i64 b, .int .i64 c, .int .i64 d, .int .i64 e, .int .i64 W, .int .i64 H, x, r, y] 44)).alloc (.cells #[.int .i64 T, .int .i64 Z, u] 48)).cell? ⟨w.heap.size, 0, none⟩ = some (.slice At nt ct) ∧ ((w.alloc (.cells #[.slice At nt ct, .slice Ak nk ck, .int .i64 a, .int .i64 b, .int .i64 c, .int .i64 d, .int .i64 e, .int .i64 W, .int .i64 H, x, r, y] 44)).alloc (.cells #[.int .i64 T, .int .i64 Z, u] 48)).cell? ⟨w.heap.size, 1, none⟩ = some (.slice Ak nk ck) ∧ ((w.alloc (.cells #[.slice At nt ct, .slice Ak nk ck, .int .i64 a, .int .i64 b, .int .i64 c, .int .i64 d, .int .i64 e, .int .i64 W, .int .i64 H, x, r, y] 44)).alloc (.cells #[.int .i64 T, .int .i64 Z, u] 48)).cell? ⟨w.heap.size, 2, none⟩ = some (.int .i64 a) ∧ ((w.alloc (.cells #[.slice At nt ct, .slice Ak nk ck, .int .i64 a, .int .i64 b, .int .i64 c, .int .i64 d, .int .i64 e, .int .i64 W, .int .i64 H, x, r, y] 44)).alloc (.cells #[.int .i64 T, .int .i64 Z, u] 48)).cell? ⟨w.heap.size, 3, none⟩ = some (.int .i64 b) ∧ ((w.alloc (.cells #[.slice At nt ct, .slice Ak nk ck, .int .i64 a, .int .i64 b, .int .i64 c, .int .i64 d, .int .i64 e, .int .i64 W, .int .i64 H, x, r, y] 44)).alloc (.cells #[.int .i64 T, .int .i64 Z, u] 48)).cell? ⟨w.heap.size, 4, none⟩ = some (.int .i64 c) ∧ ((w.alloc (.cells #[.slice At nt ct, .slice Ak nk ck, .int .i64 a, .int .i64 b, .int .i64 c, .int .i64 d, .int .i64 e, .int .i64 W, .int .i64 H, x, r, y] 44)).alloc (.cells #[.int .i64 T, .int .i64 Z, u] 48)).cell? ⟨w.heap.size, 5, none⟩ = some (.int .i64 d) ∧ ((w.alloc (.cells #[.slice At nt ct, .slice Ak nk ck, .int .i64 a, .int .i64 b, .int .i64 c, .int .i64 d, .int .i64 e, .int .i64 W, .int .i64 H, x, r, y] 44)).alloc (.cells #[.int .i64 T, .int .i64 Z, u] 48)).cell? ⟨w.heap.size, 6, none⟩ = some (.int .i64 e) ∧ ((w.alloc (.cells #[.slice At nt ct, .slice Ak nk ck, .int .i64 a, .int .i64 b, .int .i64 c, .int .i64 d, .int .i64 e, .int .i64 W, .int .i64 H, x, r, y] 44)).alloc (.cells #[.int .i64 T, .int .i64 Z, u] 48)).cell? ⟨w.heap.size, 7, none⟩ = some (.int .i64 W) ∧ ((w.alloc (.cells #[.slice At nt ct, .slice Ak nk ck, .int .i64 a, .int .i64 b, .int .i64 c, .int .i64 d, .int .i64 e, .int .i64 W, .int .i64 H, x, r, y] 44)).alloc (.cells #[.int .i64 T, .int .i64 Z, u] 48)).cell? ⟨w.heap.size, 8, none⟩ = some (.int .i64 H) ∧ ((w.alloc (.cells #[.slice At nt ct, .slice Ak nk ck, .int .i64 a, .int .i64 b, .int .i64 c, .int .i64 d, .int .i64 e, .int .i64 W, .int .i64 H, x, r, y] 44)).alloc (.cells #[.int .i64 T, .int .i64 Z, u] 48)).cell? ⟨w.heap.size, 9, none⟩ = some (x) ∧ ((w.alloc (.cells #[.slice At nt ct, .slice Ak nk ck, .int .i64 a, .int .i64 b, .int .i64 c, .int .i64 d, .int .i64 e, .int .i64 W, .int .i64 H, x, r, y] 44)).alloc (.cells #[.int .i64 T, .int .i64 Z, u] 48)).cell? ⟨w.heap.size, 10, none⟩ = some (r) ∧ ((w.alloc (.cells #[.slice At nt ct, .slice Ak nk ck, .int .i64 a, .int .i64 b, .int .i64 c, .int .i64 d, .int .i64 e, .int .i64 W, .int .i64 H, x, r, y] 44)).alloc (.cells #[.int .i64 T, .int .i64 Z, u] 48)).cell? ⟨w.heap.size, 11, none⟩ = some (y) ∧ ((w.alloc (.cells #[.slice At nt ct, .slice Ak nk ck, .int .i64 a, .int .i64 b, .int .i64 c, .int .i64 d, .int .i64 e, .int .i64 W, .int .i64 H, x, r, y] 44)).alloc (.cells #[.int .i64 T, .int .i64 Z, u] 48)).cell? ⟨w.heap.size + 1, 0, none⟩ = some (.int .i64 T) ∧ ((w.alloc (.cells #[.slice At nt ct, .slice Ak nk ck, .int .i64 a, .int .i64 b, .int .i64 c, .int .i64 d, .int .i64 e, .int .i64 W, .int .i64 H, x, r, y] 44)).alloc (.cells #[.int .i64 T, .int .i64 Z, u] 48)).cell? ⟨w.heap.size + 1, 1, none⟩ = some (.int .i64 Z) ∧ ((w.alloc (.cells #[.slice At nt ct, .slice Ak nk ck, .int .i64 a, .int .i64 b, .int .i64 c, .int .i64 d, .int .i64 e, .int .i64 W, .int .i64 H, x, r, y] 44)).alloc (.cells #[.int .i64 T, .int .i64 Z, u] 48)).cell? ⟨w.heap.size + 1, 2, none⟩ = some (u) ∧ Kp w ((w.alloc (.cells #[.slice At nt ct, .slice Ak nk ck, .int .i64 a, .int .i64 b, .int .i64 c, .int .i64 d, .int .i64 e, .int .i64 W, .int .i64 H, x, r, y] 44)).alloc (.cells #[.int .i64 T, .int .i64 Z, u] 48)) := ⟨by simp [go_sem], by simp [go_sem], by simp [go_sem], by simp [go_sem], by simp [go_sem], by simp [go_sem], by simp [go_sem], by simp [go_sem], by simp [go_sem], by simp [go_sem], by simp [go_sem], by simp [go_sem], by simp [go_sem], by simp [go_sem], by simp [go_sem], KA⟩
  have C1 := Lib.hid (isStateOn_any At Ak nt nk ct ck l m a b c d e W H x r y lt lr ld T Z u us _ (hs.keep KA) (ht.keep KA) (hu.keep KA) (hB.keep KA) (hS.keep KA))
  cases ho : brdOk ⟨l, m, a, b, c, d, e⟩ W H lt lr ld && staOk ⟨l, m, a, b, c, d, e⟩ W H lt T Z us
  · rw [ho] at C1
    clear hs ht hu hB hS ho
    go_enter Tryd.func23, Tryd.ntmps23
    go_wp2_with fail
    refine C1.out.mono ?_
    rintro e1 w1 ⟨rfl, k1⟩
    go_wp2_with fail
    go_ret3
    exact ⟨rfl, KA.trans k1⟩
  · obtain ⟨A, cp, rfl, _⟩ := hS.rd
    exact count_go At Ak nt nk ct ck l m a b c d e W H x r y lt lr ld T Z A us.length cp us w hs ht hu hB hS rfl ho

end Go.Proofs.YtiaahpcfciomlaaDoor
