/-
  The cells of a sight, as the reference tells them; SightCells of both sides. In memory of its own; nothing that was there is changed. The named variables hold what the program's text lays.
-/
import Derived.Test.YtfohhofpfmbheaaGreatDoorSgC
namespace Go.Proofs.YtfohhofpfmbheaaGreatDoor
open Go.RowKit

theorem grow12k {W0 w w1 : World} {b : Nat} {v0 v1 v2 v3 v4 v5 v6 v7 v8 v9 v10 v11 : Value} {row : Option Nat} (g : w.grownBy w1 row) (hne : some b ≠ row) (hr : ∀ k, row = some k → W0.heap.size ≤ k) (h : w.cell? ⟨b, 0, none⟩ = some v0 ∧ w.cell? ⟨b, 1, none⟩ = some v1 ∧ w.cell? ⟨b, 2, none⟩ = some v2 ∧ w.cell? ⟨b, 3, none⟩ = some v3 ∧ w.cell? ⟨b, 4, none⟩ = some v4 ∧ w.cell? ⟨b, 5, none⟩ = some v5 ∧ w.cell? ⟨b, 6, none⟩ = some v6 ∧ w.cell? ⟨b, 7, none⟩ = some v7 ∧ w.cell? ⟨b, 8, none⟩ = some v8 ∧ w.cell? ⟨b, 9, none⟩ = some v9 ∧ w.cell? ⟨b, 10, none⟩ = some v10 ∧ w.cell? ⟨b, 11, none⟩ = some v11 ∧ Kp W0 w) : w1.cell? ⟨b, 0, none⟩ = some v0 ∧ w1.cell? ⟨b, 1, none⟩ = some v1 ∧ w1.cell? ⟨b, 2, none⟩ = some v2 ∧ w1.cell? ⟨b, 3, none⟩ = some v3 ∧ w1.cell? ⟨b, 4, none⟩ = some v4 ∧ w1.cell? ⟨b, 5, none⟩ = some v5 ∧ w1.cell? ⟨b, 6, none⟩ = some v6 ∧ w1.cell? ⟨b, 7, none⟩ = some v7 ∧ w1.cell? ⟨b, 8, none⟩ = some v8 ∧ w1.cell? ⟨b, 9, none⟩ = some v9 ∧ w1.cell? ⟨b, 10, none⟩ = some v10 ∧ w1.cell? ⟨b, 11, none⟩ = some v11 ∧ Kp W0 w1 :=
  ⟨g.cell h.1 hne, g.cell h.2.1 hne, g.cell h.2.2.1 hne, g.cell h.2.2.2.1 hne, g.cell h.2.2.2.2.1 hne, g.cell h.2.2.2.2.2.1 hne, g.cell h.2.2.2.2.2.2.1 hne, g.cell h.2.2.2.2.2.2.2.1 hne, g.cell h.2.2.2.2.2.2.2.2.1 hne, g.cell h.2.2.2.2.2.2.2.2.2.1 hne, g.cell h.2.2.2.2.2.2.2.2.2.2.1 hne, g.cell h.2.2.2.2.2.2.2.2.2.2.2.1 hne, h.2.2.2.2.2.2.2.2.2.2.2.2.grown g hr⟩

theorem areTwo_any (At Ak : Option Addr) (nt nk ct ck : Nat) (l : List Ter) (m : List Knd) (a b c d e W H : Int) (x r y : Value) (lt lr ld : List Int) (i k : Int) (w : World) (hs : Spans w) (ht : Tab w) (hB : BrdAt w At Ak nt nk l m x r y lt lr ld) :
    Calls Tryz.prog 43 #[bv (.slice At nt ct) (.slice Ak nk ck) a b c d e W H x r y, .slice (some ⟨w.heap.size + 1, 0, none⟩) 2 2] ((w.alloc (.cells #[.slice At nt ct, .slice Ak nk ck, .int .i64 a, .int .i64 b, .int .i64 c, .int .i64 d, .int .i64 e, .int .i64 W, .int .i64 H, x, r, y] 41)).alloc (.cells #[.int .i64 i, .int .i64 k] 3)) fun e' w' => e' = .returned (.bool ((brdOk ⟨l, m, a, b, c, d, e⟩ W H lt lr ld && onI W H i) && onI W H k)) ∧ Kp ((w.alloc (.cells #[.slice At nt ct, .slice Ak nk ck, .int .i64 a, .int .i64 b, .int .i64 c, .int .i64 d, .int .i64 e, .int .i64 W, .int .i64 H, x, r, y] 41)).alloc (.cells #[.int .i64 i, .int .i64 k] 3)) w' := by
  have k1 : Kp w ((w.alloc (.cells #[.slice At nt ct, .slice Ak nk ck, .int .i64 a, .int .i64 b, .int .i64 c, .int .i64 d, .int .i64 e, .int .i64 W, .int .i64 H, x, r, y] 41)).alloc (.cells #[.int .i64 i, .int .i64 k] 3)) := ((Kp.refl w).alloc _).alloc _
  have := areHexesOn_any At Ak nt nk ct ck l m a b c d e W H x r y lt lr ld (.slice (some ⟨w.heap.size + 1, 0, none⟩) 2 2) [i, k] ((w.alloc (.cells #[.slice At nt ct, .slice Ak nk ck, .int .i64 a, .int .i64 b, .int .i64 c, .int .i64 d, .int .i64 e, .int .i64 W, .int .i64 H, x, r, y] 41)).alloc (.cells #[.int .i64 i, .int .i64 k] 3)) (hs.keep k1) (ht.keep k1) (hB.keep k1) (by have := rd_two (w.alloc (.cells #[.slice At nt ct, .slice Ak nk ck, .int .i64 a, .int .i64 b, .int .i64 c, .int .i64 d, .int .i64 e, .int .i64 W, .int .i64 H, x, r, y] 41)) i k 3; simpa using this) (by simp)
  rw [show ((brdOk ⟨l, m, a, b, c, d, e⟩ W H lt lr ld && onI W H i) && onI W H k) = (brdOk ⟨l, m, a, b, c, d, e⟩ W H lt lr ld && [i, k].all (onI W H)) by simp [List.all, Bool.and_assoc]]
  exact this
theorem areOne_any (At Ak : Option Addr) (nt nk ct ck : Nat) (l : List Ter) (m : List Knd) (a b c d e W H : Int) (x r y : Value) (lt lr ld : List Int) (i : Int) (w : World) (hs : Spans w) (ht : Tab w) (hB : BrdAt w At Ak nt nk l m x r y lt lr ld) :
    Calls Tryz.prog 43 #[bv (.slice At nt ct) (.slice Ak nk ck) a b c d e W H x r y, .slice (some ⟨w.heap.size + 1, 0, none⟩) 1 1] ((w.alloc (.cells #[.slice At nt ct, .slice Ak nk ck, .int .i64 a, .int .i64 b, .int .i64 c, .int .i64 d, .int .i64 e, .int .i64 W, .int .i64 H, x, r, y] 41)).alloc (.cells #[.int .i64 i] 3)) fun e' w' => e' = .returned (.bool (brdOk ⟨l, m, a, b, c, d, e⟩ W H lt lr ld && onI W H i)) ∧ Kp ((w.alloc (.cells #[.slice At nt ct, .slice Ak nk ck, .int .i64 a, .int .i64 b, .int .i64 c, .int .i64 d, .int .i64 e, .int .i64 W, .int .i64 H, x, r, y] 41)).alloc (.cells #[.int .i64 i] 3)) w' := by
  have k1 : Kp w ((w.alloc (.cells #[.slice At nt ct, .slice Ak nk ck, .int .i64 a, .int .i64 b, .int .i64 c, .int .i64 d, .int .i64 e, .int .i64 W, .int .i64 H, x, r, y] 41)).alloc (.cells #[.int .i64 i] 3)) := ((Kp.refl w).alloc _).alloc _
  have := areHexesOn_any At Ak nt nk ct ck l m a b c d e W H x r y lt lr ld (.slice (some ⟨w.heap.size + 1, 0, none⟩) 1 1) [i] ((w.alloc (.cells #[.slice At nt ct, .slice Ak nk ck, .int .i64 a, .int .i64 b, .int .i64 c, .int .i64 d, .int .i64 e, .int .i64 W, .int .i64 H, x, r, y] 41)).alloc (.cells #[.int .i64 i] 3)) (hs.keep k1) (ht.keep k1) (hB.keep k1) (by have := rd_one (w.alloc (.cells #[.slice At nt ct, .slice Ak nk ck, .int .i64 a, .int .i64 b, .int .i64 c, .int .i64 d, .int .i64 e, .int .i64 W, .int .i64 H, x, r, y] 41)) i 3; simpa using this) (by simp)
  rw [show (brdOk ⟨l, m, a, b, c, d, e⟩ W H lt lr ld && onI W H i) = (brdOk ⟨l, m, a, b, c, d, e⟩ W H lt lr ld && [i].all (onI W H)) by simp [List.all]]
  exact this

set_option maxRecDepth 100000 in
set_option maxHeartbeats 4000000 in
theorem vCells_any (At Ak : Option Addr) (nt nk ct ck : Nat) (l : List Ter) (m : List Knd) (a b c d e W H : Int) (x r y : Value) (lt lr ld : List Int) (i k : Int) (w : World) (hok : brdOk ⟨l, m, a, b, c, d, e⟩ W H lt lr ld = true) (hi : onI W H i = true) (hk : onI W H k = true) :
    Calls Tryz.prog 40 #[bv (.slice At nt ct) (.slice Ak nk ck) a b c d e W H x r y, .int .i64 i, .int .i64 k] w fun e' w' => ∃ v vs, e' = .returned v ∧ OwnII w' w.heap.size v (sgtL W i k) vs ∧ Kp w w' := by
  obtain ⟨b1, b2, b3, b4⟩ := mapOk_side (brdOk_map hok)
  have s0 : (w.alloc (.cells #[.slice At nt ct, .slice Ak nk ck, .int .i64 a, .int .i64 b, .int .i64 c, .int .i64 d, .int .i64 e, .int .i64 W, .int .i64 H, x, r, y] 41)).cell? ⟨w.heap.size, 0, none⟩ = some (.slice At nt ct) ∧ (w.alloc (.cells #[.slice At nt ct, .slice Ak nk ck, .int .i64 a, .int .i64 b, .int .i64 c, .int .i64 d, .int .i64 e, .int .i64 W, .int .i64 H, x, r, y] 41)).cell? ⟨w.heap.size, 1, none⟩ = some (.slice Ak nk ck) ∧ (w.alloc (.cells #[.slice At nt ct, .slice Ak nk ck, .int .i64 a, .int .i64 b, .int .i64 c, .int .i64 d, .int .i64 e, .int .i64 W, .int .i64 H, x, r, y] 41)).cell? ⟨w.heap.size, 2, none⟩ = some (.int .i64 a) ∧ (w.alloc (.cells #[.slice At nt ct, .slice Ak nk ck, .int .i64 a, .int .i64 b, .int .i64 c, .int .i64 d, .int .i64 e, .int .i64 W, .int .i64 H, x, r, y] 41)).cell? ⟨w.heap.size, 3, none⟩ = some (.int .i64 b) ∧ (w.alloc (.cells #[.slice At nt ct, .slice Ak nk ck, .int .i64 a, .int .i64 b, .int .i64 c, .int .i64 d, .int .i64 e, .int .i64 W, .int .i64 H, x, r, y] 41)).cell? ⟨w.heap.size, 4, none⟩ = some (.int .i64 c) ∧ (w.alloc (.cells #[.slice At nt ct, .slice Ak nk ck, .int .i64 a, .int .i64 b, .int .i64 c, .int .i64 d, .int .i64 e, .int .i64 W, .int .i64 H, x, r, y] 41)).cell? ⟨w.heap.size, 5, none⟩ = some (.int .i64 d) ∧ (w.alloc (.cells #[.slice At nt ct, .slice Ak nk ck, .int .i64 a, .int .i64 b, .int .i64 c, .int .i64 d, .int .i64 e, .int .i64 W, .int .i64 H, x, r, y] 41)).cell? ⟨w.heap.size, 6, none⟩ = some (.int .i64 e) ∧ (w.alloc (.cells #[.slice At nt ct, .slice Ak nk ck, .int .i64 a, .int .i64 b, .int .i64 c, .int .i64 d, .int .i64 e, .int .i64 W, .int .i64 H, x, r, y] 41)).cell? ⟨w.heap.size, 7, none⟩ = some (.int .i64 W) ∧ (w.alloc (.cells #[.slice At nt ct, .slice Ak nk ck, .int .i64 a, .int .i64 b, .int .i64 c, .int .i64 d, .int .i64 e, .int .i64 W, .int .i64 H, x, r, y] 41)).cell? ⟨w.heap.size, 8, none⟩ = some (.int .i64 H) ∧ (w.alloc (.cells #[.slice At nt ct, .slice Ak nk ck, .int .i64 a, .int .i64 b, .int .i64 c, .int .i64 d, .int .i64 e, .int .i64 W, .int .i64 H, x, r, y] 41)).cell? ⟨w.heap.size, 9, none⟩ = some (x) ∧ (w.alloc (.cells #[.slice At nt ct, .slice Ak nk ck, .int .i64 a, .int .i64 b, .int .i64 c, .int .i64 d, .int .i64 e, .int .i64 W, .int .i64 H, x, r, y] 41)).cell? ⟨w.heap.size, 10, none⟩ = some (r) ∧ (w.alloc (.cells #[.slice At nt ct, .slice Ak nk ck, .int .i64 a, .int .i64 b, .int .i64 c, .int .i64 d, .int .i64 e, .int .i64 W, .int .i64 H, x, r, y] 41)).cell? ⟨w.heap.size, 11, none⟩ = some (y) ∧ Kp w (w.alloc (.cells #[.slice At nt ct, .slice Ak nk ck, .int .i64 a, .int .i64 b, .int .i64 c, .int .i64 d, .int .i64 e, .int .i64 W, .int .i64 H, x, r, y] 41)) := ⟨by simp [go_sem], by simp [go_sem], by simp [go_sem], by simp [go_sem], by simp [go_sem], by simp [go_sem], by simp [go_sem], by simp [go_sem], by simp [go_sem], by simp [go_sem], by simp [go_sem], by simp [go_sem], (Kp.refl w).alloc _⟩
  obtain ⟨i1, i2, i3, i4⟩ := hex_bd b1 b2 (onI_true hi).1 (onI_true hi).2
  obtain ⟨k1, k2, k3, k4⟩ := hex_bd b1 b2 (onI_true hk).1 (onI_true hk).2
  have hA := area_bd b1 b2 b3 b4
  obtain ⟨ii0, ii1⟩ := onI_true hi
  obtain ⟨kk0, kk1⟩ := onI_true hk
  have hha := okH_mk (q := i % W) (r := i / W) (by omega) (by omega) (by omega) (by omega)
  have hhb := okH_mk (q := k % W) (r := k / W) (by omega) (by omega) (by omega) (by omega)
  have hd := dist_bd hha hhb
  obtain ⟨N, hN⟩ : ∃ N : Nat, (N : Int) = distH (i % W) (i / W) (k % W) (k / W) := ⟨(distH (i % W) (i / W) (k % W) (k / W)).toNat, by omega⟩
  have hN2 : N ≤ 160 := by omega
  have HSG : Hid (sgtL W i k = sgF W (i % W) (i / W) (k % W) (k / W) (N : Int) (N - 1)) := Lib.hid (by
    unfold sgtL dstW
    rw [← hN, Int.toNat_natCast])
  have HIN : Hid (∀ u : Nat, 1 ≤ u → u < N → ∀ p ∈ cellsL (i % W * N + (k % W - i % W) * u) (i / W * N + (k / W - i / W) * u) N, 0 ≤ p.1 ∧ p.1 < W ∧ 0 ≤ p.2 ∧ p.2 < H) := Lib.hid fun u h1 h2 p hp => by
    obtain ⟨px, py⟩ := p
    exact cell_in (by omega) hN i1 i2 i3 i4 k1 k2 k3 k4 (by omega) (by omega) hp
  rw [HSG.out]
  obtain ⟨aq, haq⟩ : ∃ z, z = i % W := ⟨_, rfl⟩
  obtain ⟨ar, har⟩ : ∃ z, z = i / W := ⟨_, rfl⟩
  obtain ⟨bq, hbq⟩ : ∃ z, z = k % W := ⟨_, rfl⟩
  obtain ⟨br, hbr⟩ : ∃ z, z = k / W := ⟨_, rfl⟩
  have CH1 : Hid (∀ w, Calls Tryz.prog 73 #[mp W H x r y, .int .i64 i] w fun e w' => e = .returned (hx (i % W) (i / W)) ∧ Kp w w') := Lib.hid fun w => mHex_any W H x r y i w b1 b2 ii0 (by omega)
  have CH2 : Hid (∀ w, Calls Tryz.prog 73 #[mp W H x r y, .int .i64 k] w fun e w' => e = .returned (hx (k % W) (k / W)) ∧ Kp w w') := Lib.hid fun w => mHex_any W H x r y k w b1 b2 kk0 (by omega)
  have CL : Hid (∀ w, Calls Tryz.prog 72 #[hx (i % W) (i / W), hx (k % W) (k / W)] w fun e w' => ∃ v vs, e = .returned v ∧ OwnHH w' w.heap.size v (lineF (i % W) (i / W) (k % W) (k / W) (onep N) (N + 1)) vs ∧ Kp w w') := Lib.hid fun w => hLine_any (i % W) (i / W) (k % W) (k / W) N w hha hhb hN
  have HLT : Hid (∀ u : Nat, u < N + 1 → 1 ≤ N → (lineF (i % W) (i / W) (k % W) (k / W) (onep N) (N + 1))[u]? = some (cellsL (i % W * N + (k % W - i % W) * u) (i / W * N + (k / W - i / W) * u) N)) := Lib.hid fun u hu h1 => by
    rw [onep_of h1]
    exact lineF_at _ _ _ _ _ _ _ hu
  have HLL : Hid ((lineF (i % W) (i / W) (k % W) (k / W) (onep N) (N + 1)).length = N + 1) := Lib.hid (lineF_len _ _ _ _ _ _)
  rw [← haq, ← har, ← hbq, ← hbr] at HIN CL HLT HLL ⊢
  rw [← haq, ← har] at CH1
  rw [← hbq, ← hbr] at CH2
  generalize lineF aq ar bq br (onep N) (N + 1) = LN at CL HLT HLL
  clear hha hhb hd hN HSG haq har hbq hbr i1 i2 i3 i4 k1 k2 k3 k4 hA hi hk hok
  obtain ⟨j0, hj0, hz0, hs0, hb0⟩ := info_parts infoInt
  obtain ⟨j1, hj1, hz1, hs1, hb1⟩ := info_parts infoIntS
  go_enter Tryz.func40, Tryz.ntmps40
  go_wp2_with fail
  have s1 := drew12k s0
  clear s0
  go_region_held3 (fun w' => w'.cell? ⟨w.heap.size, 0, none⟩ = some (.slice At nt ct) ∧ w'.cell? ⟨w.heap.size, 1, none⟩ = some (.slice Ak nk ck) ∧ w'.cell? ⟨w.heap.size, 2, none⟩ = some (.int .i64 a) ∧ w'.cell? ⟨w.heap.size, 3, none⟩ = some (.int .i64 b) ∧ w'.cell? ⟨w.heap.size, 4, none⟩ = some (.int .i64 c) ∧ w'.cell? ⟨w.heap.size, 5, none⟩ = some (.int .i64 d) ∧ w'.cell? ⟨w.heap.size, 6, none⟩ = some (.int .i64 e) ∧ w'.cell? ⟨w.heap.size, 7, none⟩ = some (.int .i64 W) ∧ w'.cell? ⟨w.heap.size, 8, none⟩ = some (.int .i64 H) ∧ w'.cell? ⟨w.heap.size, 9, none⟩ = some (x) ∧ w'.cell? ⟨w.heap.size, 10, none⟩ = some (r) ∧ w'.cell? ⟨w.heap.size, 11, none⟩ = some (y) ∧ Kp w w') (first | assumption | exact s1)
    (first
      | (go_at_call_of 73 i; refine (CH1.out _).mono ?_; rintro e1 w1 ⟨rfl, ka⟩; have s2 := keep12k ka s1)
      | (go_at_call_of 73 k; refine (CH2.out _).mono ?_; rintro e2 w2 ⟨rfl, kb⟩; have s3 := keep12k kb s2)
      | (go_at_call 72; refine (CL.out _).mono ?_; rintro e3 w3 ⟨v, vs, rfl, o3, kc⟩; have s4 := keep12k kc s3; obtain ⟨AL, cL, rfl⟩ := o3.sl))
  have R4 := Lib.hid o3.rd
  have K03 := s4.2.2.2.2.2.2.2.2.2.2.2.2
  have hz3 := cellB s4.1
  simp only at hz3
  have s5 : w3.cell? ⟨w.heap.size, 0, none⟩ = some (.slice At nt ct) ∧ w3.cell? ⟨w.heap.size, 1, none⟩ = some (.slice Ak nk ck) ∧ w3.cell? ⟨w.heap.size, 2, none⟩ = some (.int .i64 a) ∧ w3.cell? ⟨w.heap.size, 3, none⟩ = some (.int .i64 b) ∧ w3.cell? ⟨w.heap.size, 4, none⟩ = some (.int .i64 c) ∧ w3.cell? ⟨w.heap.size, 5, none⟩ = some (.int .i64 d) ∧ w3.cell? ⟨w.heap.size, 6, none⟩ = some (.int .i64 e) ∧ w3.cell? ⟨w.heap.size, 7, none⟩ = some (.int .i64 W) ∧ w3.cell? ⟨w.heap.size, 8, none⟩ = some (.int .i64 H) ∧ w3.cell? ⟨w.heap.size, 9, none⟩ = some (x) ∧ w3.cell? ⟨w.heap.size, 10, none⟩ = some (r) ∧ w3.cell? ⟨w.heap.size, 11, none⟩ = some (y) ∧ Kp w3 w3 := ⟨s4.1, s4.2.1, s4.2.2.1, s4.2.2.2.1, s4.2.2.2.2.1, s4.2.2.2.2.2.1, s4.2.2.2.2.2.2.1, s4.2.2.2.2.2.2.2.1, s4.2.2.2.2.2.2.2.2.1, s4.2.2.2.2.2.2.2.2.2.1, s4.2.2.2.2.2.2.2.2.2.2.1, s4.2.2.2.2.2.2.2.2.2.2.2.1, Kp.refl w3⟩
  clear s1 s2 s3 o3 s4
  rw [HLL.out]
  go_wp2_with fail
  go_loopw [8, 9, 10, 12] (fun v8 s9 _ _ wr => ∃ (u : Nat) (vs8 : List Value), 1 ≤ u ∧ (u ≤ N ∨ u = 1) ∧ s9 = .int .i64 u ∧ OwnII wr w3.heap.size v8 (sgF W aq ar bq br N (u - 1)) vs8 ∧ wr.cell? ⟨w.heap.size, 0, none⟩ = some (.slice At nt ct) ∧ wr.cell? ⟨w.heap.size, 1, none⟩ = some (.slice Ak nk ck) ∧ wr.cell? ⟨w.heap.size, 2, none⟩ = some (.int .i64 a) ∧ wr.cell? ⟨w.heap.size, 3, none⟩ = some (.int .i64 b) ∧ wr.cell? ⟨w.heap.size, 4, none⟩ = some (.int .i64 c) ∧ wr.cell? ⟨w.heap.size, 5, none⟩ = some (.int .i64 d) ∧ wr.cell? ⟨w.heap.size, 6, none⟩ = some (.int .i64 e) ∧ wr.cell? ⟨w.heap.size, 7, none⟩ = some (.int .i64 W) ∧ wr.cell? ⟨w.heap.size, 8, none⟩ = some (.int .i64 H) ∧ wr.cell? ⟨w.heap.size, 9, none⟩ = some (x) ∧ wr.cell? ⟨w.heap.size, 10, none⟩ = some (r) ∧ wr.cell? ⟨w.heap.size, 11, none⟩ = some (y) ∧ Kp w3 wr) (fun _ s9 _ _ _ => N - (intOf s9).toNat)
  case atStart => exact ⟨1, [], by omega, by omega, rfl, OwnII.nil _ _, s5⟩
  case round =>
    clear s5
    obtain ⟨u, vs8, hu1, hu2, rfl, hoR, sr⟩ := hrel
    obtain ⟨w8, hw8⟩ : ∃ z, z = wr := ⟨_, rfl⟩
    subst hw8
    by_cases hlt : u < N
    · have hlt' : (u : Int) < N := by omega
      have hlt2 : (u : Int) < (N : Int) + 1 := by omega
      have hLu := HLT.out u (by omega) (by omega)
      obtain ⟨AL', cL', vsl, e9, hvl, h0, h1⟩ := R4.out
      simp only [Value.slice.injEq] at e9
      obtain ⟨e9, -, e10⟩ := e9
      subst e9
      subst e10
      obtain ⟨gL, oL, rfl, hcl⟩ := h0 (by rw [HLL.out]; omega)
      obtain ⟨xc, hxc⟩ : ∃ x, vsl[u]? = some x := ⟨vsl[u]'(by rw [hvl, HLL.out]; omega), List.getElem?_eq_getElem _⟩
      have cx := sr.2.2.2.2.2.2.2.2.2.2.2.2.cell (hcl u xc hxc)
      have HX := Lib.hid (h1 u xc _ hxc hLu)
      have HCI := Lib.hid (HIN.out u hu1 hlt)
      have HSU : Hid (sgF W aq ar bq br N (u + 1 - 1) = sgF W aq ar bq br N (u - 1) ++ [idxC W (cellsL (aq * N + (bq - aq) * u) (ar * N + (br - ar) * u) N)]) := Lib.hid (by
        obtain ⟨t9, rfl⟩ : ∃ t9, u = t9 + 1 := ⟨u - 1, by omega⟩
        rw [Nat.add_sub_cancel, Nat.add_sub_cancel, sgF, Int.natCast_add, Int.natCast_one])
      have hcl2 := cellsL_len (aq * N + (bq - aq) * u) (ar * N + (br - ar) * u) N
      have hln : Hid ((sgF W aq ar bq br N (u - 1)).length ≤ 200) := Lib.hid (by rw [sgF_len]; omega)
      generalize cellsL (aq * N + (bq - aq) * u) (ar * N + (br - ar) * u) N = C0 at HX HCI HSU hcl2
      obtain ⟨Ac, cc, rfl, hcc⟩ := HX.out
      have HV := Lib.hid hcc
      obtain ⟨nC, hnC⟩ : ∃ n, n = C0.length := ⟨_, rfl⟩
      have HCL := Lib.hid hnC
      rw [← hnC] at hcl2 HV cx
      have HO := Lib.hid hoR
      have hzr := sr.2.2.2.2.2.2.2.2.2.2.2.2.size
      have KR3 := Lib.hid sr.2.2.2.2.2.2.2.2.2.2.2.2
      have s6 : w8.cell? ⟨w.heap.size, 0, none⟩ = some (.slice At nt ct) ∧ w8.cell? ⟨w.heap.size, 1, none⟩ = some (.slice Ak nk ck) ∧ w8.cell? ⟨w.heap.size, 2, none⟩ = some (.int .i64 a) ∧ w8.cell? ⟨w.heap.size, 3, none⟩ = some (.int .i64 b) ∧ w8.cell? ⟨w.heap.size, 4, none⟩ = some (.int .i64 c) ∧ w8.cell? ⟨w.heap.size, 5, none⟩ = some (.int .i64 d) ∧ w8.cell? ⟨w.heap.size, 6, none⟩ = some (.int .i64 e) ∧ w8.cell? ⟨w.heap.size, 7, none⟩ = some (.int .i64 W) ∧ w8.cell? ⟨w.heap.size, 8, none⟩ = some (.int .i64 H) ∧ w8.cell? ⟨w.heap.size, 9, none⟩ = some (x) ∧ w8.cell? ⟨w.heap.size, 10, none⟩ = some (r) ∧ w8.cell? ⟨w.heap.size, 11, none⟩ = some (y) ∧ Kp w8 w8 := ⟨sr.1, sr.2.1, sr.2.2.1, sr.2.2.2.1, sr.2.2.2.2.1, sr.2.2.2.2.2.1, sr.2.2.2.2.2.2.1, sr.2.2.2.2.2.2.2.1, sr.2.2.2.2.2.2.2.2.1, sr.2.2.2.2.2.2.2.2.2.1, sr.2.2.2.2.2.2.2.2.2.2.1, sr.2.2.2.2.2.2.2.2.2.2.2.1, Kp.refl w8⟩
      clear hcl h0 h1 hxc hLu hvl hoR hcc HX sr
      go_wp2_with fail
      rw [← hnC]
      clear hnC cx
      go_loopw [10, 12, 34] (fun v10 _ s34 wx => ∃ q : Nat, q ≤ nC ∧ s34 = .int .i64 q ∧ OwnI wx w8.heap.size v10 (idxC W (C0.take q)) ∧ wx.cell? ⟨w.heap.size, 0, none⟩ = some (.slice At nt ct) ∧ wx.cell? ⟨w.heap.size, 1, none⟩ = some (.slice Ak nk ck) ∧ wx.cell? ⟨w.heap.size, 2, none⟩ = some (.int .i64 a) ∧ wx.cell? ⟨w.heap.size, 3, none⟩ = some (.int .i64 b) ∧ wx.cell? ⟨w.heap.size, 4, none⟩ = some (.int .i64 c) ∧ wx.cell? ⟨w.heap.size, 5, none⟩ = some (.int .i64 d) ∧ wx.cell? ⟨w.heap.size, 6, none⟩ = some (.int .i64 e) ∧ wx.cell? ⟨w.heap.size, 7, none⟩ = some (.int .i64 W) ∧ wx.cell? ⟨w.heap.size, 8, none⟩ = some (.int .i64 H) ∧ wx.cell? ⟨w.heap.size, 9, none⟩ = some (x) ∧ wx.cell? ⟨w.heap.size, 10, none⟩ = some (r) ∧ wx.cell? ⟨w.heap.size, 11, none⟩ = some (y) ∧ Kp w8 wx) (fun _ _ s34 _ => nC - (intOf s34).toNat)
      case atStart => exact ⟨0, by omega, rfl, OwnI.nil _ _, s6⟩
      case round =>
        clear s6
        obtain ⟨q, hqn, rfl, hoI, sx⟩ := hrel
        by_cases hltq : q < nC
        · have hltq' : (q : Int) < nC := by omega
          obtain ⟨g, off, rfl, hc⟩ := HV.out (by omega)
          obtain ⟨⟨px, py⟩, hp⟩ : ∃ p, C0[q]? = some p := ⟨C0[q]'(by have := HCL.out; omega), List.getElem?_eq_getElem _⟩
          obtain ⟨a0, a1⟩ := hc q _ hp
          simp only at a0 a1
          have b0 := (KR3.out.trans sx.2.2.2.2.2.2.2.2.2.2.2.2).cell a0
          have b1' := (KR3.out.trans sx.2.2.2.2.2.2.2.2.2.2.2.2).cell a1
          obtain ⟨i1, i2, i3, i4⟩ := HCI.out _ (List.mem_of_getElem? hp)
          simp only at i1 i2 i3 i4
          have HS := Lib.hid (idxC_take (W := W) hp)
          simp only at HS
          have kb : Kp wr (wr.alloc (.cells #[.int .i64 px, .int .i64 py] 86)) := (Kp.refl _).alloc _
          have s7 := keep12k kb sx
          have HO1 := Lib.hid (hoI.keep kb)
          have CX : Hid (∀ w, Calls Tryz.prog 74 #[mp W H x r y, hx px py] w fun e w' => e = .returned (.int .i64 (idxM W px py)) ∧ Kp w w') := Lib.hid fun w => by
            have := mIndex_any W H x r y px py w b1 b2 b3 b4
            rw [inM_mk i1 i2 i3 i4, orNo_true] at this
            exact this
          have ib := idxM_bd b2 b4 i1 i2 i3 i4
          have hlnI : Hid ((idxC W (C0.take q)).length ≤ 2) := Lib.hid (by rw [idxC_len, List.length_take]; omega)
          generalize idxM W px py = X at CX HS ib
          clear a0 a1 i1 i2 i3 i4 hc hp hoI sx kb
          go_wp2_with fail
          refine (CX.out _).mono ?_
          rintro e1 w1 ⟨rfl, k1⟩
          have s8 := keep12k k1 s7
          have O1 := Lib.hid (HO1.out.keep k1)
          have n1 := Lib.hid (O1.out.not (g := w.heap.size) (by omega))
          have hz1 := s8.2.2.2.2.2.2.2.2.2.2.2.2.size
          clear s7 HO1 k1
          go_wp2_with (at_builtin; refine wpList_append_own_at _ rfl (.tmp 38) (.tmp 43) 26 rfl (w8.heap.size) 3 j0 (.int .i64 0) 1 8 Tryz.underlying26 hj0 hz0 hs0 hb0 rfl (by decide) _ (idxC W (C0.take q)).length (cellsI (idxC W (C0.take q))) rfl (World.ownsRow.alloc O1.out _) ⟨w1.heap.size, 0, none⟩ 1 1 [.int .i64 X] rfl rfl (one_cell _ _ _) (by simp [Value.oneCell']) (by have := hlnI.out; simp only [maxLen]; omega) (by have := hlnI.out; omega) (by simp; omega) ?_; intro v' w3 hown2 hgrow2 hnil2 hat2; clear hnil2 hat2; have s9 := keep12k ((Kp.refl w1).alloc (.cells #[.int .i64 X] 3)) s8; have s10 := grow12k hgrow2 (fun e => n1.out e.symm) (fun k e => (World.ownsRow.lt O1.out k e).1) s9; have O3 := Lib.hid (OwnI.snoc (x := X) hown2); clear s8 s9; clear hown2 hgrow2)
          go_roundw
          case rel => exact ⟨q + 1, by omega, by go_num, by rw [HS.out]; exact O3.out, s10⟩
          case measure => simp [intOf]; omega
        · obtain rfl : q = nC := by omega
          have HE : Hid (idxC W (C0.take q) = idxC W C0) := Lib.hid (by rw [HCL.out, List.take_length])
          rw [HE.out] at hoI
          obtain ⟨A5, c5, hv5⟩ := hoI.slice
          subst hv5
          have kx := sx.2.2.2.2.2.2.2.2.2.2.2.2
          have oRow := Lib.hid (ownsRow_keep HO.out.row kx)
          have O5 := Lib.hid hoI
          have KX := Lib.hid kx
          have hzx := kx.size
          have n1 := Lib.hid (fun e => (Nat.lt_irrefl _ (Nat.lt_of_lt_of_le hz3 (World.ownsRow.lt oRow.out w.heap.size e).1)))
          have hz8 := sx
          have s7 := keep12k ((Kp.refl wr).alloc (.cells #[.slice A5 (idxC W C0).length c5] 26)) sx
          have KR9 := KR3.out.trans ((Kp.trans kx (Kp.refl wr)))
          have s8 : (wr.alloc (.cells #[.slice A5 (idxC W C0).length c5] 26)).cell? ⟨w.heap.size, 0, none⟩ = some (.slice At nt ct) ∧ (wr.alloc (.cells #[.slice A5 (idxC W C0).length c5] 26)).cell? ⟨w.heap.size, 1, none⟩ = some (.slice Ak nk ck) ∧ (wr.alloc (.cells #[.slice A5 (idxC W C0).length c5] 26)).cell? ⟨w.heap.size, 2, none⟩ = some (.int .i64 a) ∧ (wr.alloc (.cells #[.slice A5 (idxC W C0).length c5] 26)).cell? ⟨w.heap.size, 3, none⟩ = some (.int .i64 b) ∧ (wr.alloc (.cells #[.slice A5 (idxC W C0).length c5] 26)).cell? ⟨w.heap.size, 4, none⟩ = some (.int .i64 c) ∧ (wr.alloc (.cells #[.slice A5 (idxC W C0).length c5] 26)).cell? ⟨w.heap.size, 5, none⟩ = some (.int .i64 d) ∧ (wr.alloc (.cells #[.slice A5 (idxC W C0).length c5] 26)).cell? ⟨w.heap.size, 6, none⟩ = some (.int .i64 e) ∧ (wr.alloc (.cells #[.slice A5 (idxC W C0).length c5] 26)).cell? ⟨w.heap.size, 7, none⟩ = some (.int .i64 W) ∧ (wr.alloc (.cells #[.slice A5 (idxC W C0).length c5] 26)).cell? ⟨w.heap.size, 8, none⟩ = some (.int .i64 H) ∧ (wr.alloc (.cells #[.slice A5 (idxC W C0).length c5] 26)).cell? ⟨w.heap.size, 9, none⟩ = some (x) ∧ (wr.alloc (.cells #[.slice A5 (idxC W C0).length c5] 26)).cell? ⟨w.heap.size, 10, none⟩ = some (r) ∧ (wr.alloc (.cells #[.slice A5 (idxC W C0).length c5] 26)).cell? ⟨w.heap.size, 11, none⟩ = some (y) ∧ Kp w3 (wr.alloc (.cells #[.slice A5 (idxC W C0).length c5] 26)) := ⟨s7.1, s7.2.1, s7.2.2.1, s7.2.2.2.1, s7.2.2.2.2.1, s7.2.2.2.2.2.1, s7.2.2.2.2.2.2.1, s7.2.2.2.2.2.2.2.1, s7.2.2.2.2.2.2.2.2.1, s7.2.2.2.2.2.2.2.2.2.1, s7.2.2.2.2.2.2.2.2.2.2.1, s7.2.2.2.2.2.2.2.2.2.2.2.1, KR9.alloc _⟩
          clear hoI sx hz8 s7 KR9 kx
          go_wp2_with (at_builtin; refine wpList_append_own_at _ rfl (.tmp 46) (.tmp 48) 32 rfl (w3.heap.size) 26 j1 (.slice none 0 0) 1 24 Tryz.underlying32 hj1 hz1 hs1 hb1 rfl (by decide) _ (sgF W aq ar bq br N (u - 1)).length vs8 rfl (World.ownsRow.alloc oRow.out _) ⟨wr.heap.size, 0, none⟩ 1 1 [.slice A5 (idxC W C0).length c5] rfl rfl (cell_one _ _ _) (by simp [Value.oneCell']) (by have := hln.out; simp only [maxLen]; omega) (by have := hln.out; omega) (by simp; omega) ?_; intro v' w7 hown2 hgrow2 hnil2 hat2; clear hnil2; have s9 := grow12k hgrow2 (fun e => n1.out e.symm) (fun k e => (World.ownsRow.lt oRow.out k e).1) s8; have O8 := Lib.hid (HO.out.snoc KX.out O5.out (by omega) hown2 hgrow2 hat2); clear s8; clear hown2 hgrow2 hat2)
          go_roundw
          case rel => exact ⟨u + 1, _, by omega, by omega, by go_num, by rw [HSU.out]; exact O8.out, s9⟩
          case measure => simp [intOf]; omega
    · have hge : ¬ (u : Int) < N := by omega
      have hue : u - 1 = N - 1 := by omega
      rw [hue] at hoR
      go_wp2_with fail
      go_ret
      exact ⟨_, rfl, ⟨_, hoR.base (by omega)⟩, K03.trans sr.2.2.2.2.2.2.2.2.2.2.2.2⟩

/-- A new list of lists and true, or none and false. -/
def ListPostII (ok : Bool) (L : List (List Int)) (w : World) (e : Ending) (w' : World) : Prop :=
  ∃ v vs, e = .returned (.tuple #[v, .bool ok]) ∧ OwnII w' w.heap.size v (if ok = true then L else []) vs ∧ Kp w w'
set_option maxRecDepth 100000 in
set_option maxHeartbeats 4000000 in
theorem specSightCells_any (At Ak : Option Addr) (nt nk ct ck : Nat) (l : List Ter) (m : List Knd) (a b c d e W H : Int) (x r y : Value) (lt lr ld : List Int) (i k : Int) (w : World) (hB : BrdAt w At Ak nt nk l m x r y lt lr ld) :
    Calls Tryz.prog 12 #[bv (.slice At nt ct) (.slice Ak nk ck) a b c d e W H x r y, .int .i64 i, .int .i64 k] w (ListPostII ((brdOk ⟨l, m, a, b, c, d, e⟩ W H lt lr ld && onI W H i) && onI W H k) (sgtL W i k) w) := by
  have s0 : (w.alloc (.cells #[.slice At nt ct, .slice Ak nk ck, .int .i64 a, .int .i64 b, .int .i64 c, .int .i64 d, .int .i64 e, .int .i64 W, .int .i64 H, x, r, y] 41)).cell? ⟨w.heap.size, 0, none⟩ = some (.slice At nt ct) ∧ (w.alloc (.cells #[.slice At nt ct, .slice Ak nk ck, .int .i64 a, .int .i64 b, .int .i64 c, .int .i64 d, .int .i64 e, .int .i64 W, .int .i64 H, x, r, y] 41)).cell? ⟨w.heap.size, 1, none⟩ = some (.slice Ak nk ck) ∧ (w.alloc (.cells #[.slice At nt ct, .slice Ak nk ck, .int .i64 a, .int .i64 b, .int .i64 c, .int .i64 d, .int .i64 e, .int .i64 W, .int .i64 H, x, r, y] 41)).cell? ⟨w.heap.size, 2, none⟩ = some (.int .i64 a) ∧ (w.alloc (.cells #[.slice At nt ct, .slice Ak nk ck, .int .i64 a, .int .i64 b, .int .i64 c, .int .i64 d, .int .i64 e, .int .i64 W, .int .i64 H, x, r, y] 41)).cell? ⟨w.heap.size, 3, none⟩ = some (.int .i64 b) ∧ (w.alloc (.cells #[.slice At nt ct, .slice Ak nk ck, .int .i64 a, .int .i64 b, .int .i64 c, .int .i64 d, .int .i64 e, .int .i64 W, .int .i64 H, x, r, y] 41)).cell? ⟨w.heap.size, 4, none⟩ = some (.int .i64 c) ∧ (w.alloc (.cells #[.slice At nt ct, .slice Ak nk ck, .int .i64 a, .int .i64 b, .int .i64 c, .int .i64 d, .int .i64 e, .int .i64 W, .int .i64 H, x, r, y] 41)).cell? ⟨w.heap.size, 5, none⟩ = some (.int .i64 d) ∧ (w.alloc (.cells #[.slice At nt ct, .slice Ak nk ck, .int .i64 a, .int .i64 b, .int .i64 c, .int .i64 d, .int .i64 e, .int .i64 W, .int .i64 H, x, r, y] 41)).cell? ⟨w.heap.size, 6, none⟩ = some (.int .i64 e) ∧ (w.alloc (.cells #[.slice At nt ct, .slice Ak nk ck, .int .i64 a, .int .i64 b, .int .i64 c, .int .i64 d, .int .i64 e, .int .i64 W, .int .i64 H, x, r, y] 41)).cell? ⟨w.heap.size, 7, none⟩ = some (.int .i64 W) ∧ (w.alloc (.cells #[.slice At nt ct, .slice Ak nk ck, .int .i64 a, .int .i64 b, .int .i64 c, .int .i64 d, .int .i64 e, .int .i64 W, .int .i64 H, x, r, y] 41)).cell? ⟨w.heap.size, 8, none⟩ = some (.int .i64 H) ∧ (w.alloc (.cells #[.slice At nt ct, .slice Ak nk ck, .int .i64 a, .int .i64 b, .int .i64 c, .int .i64 d, .int .i64 e, .int .i64 W, .int .i64 H, x, r, y] 41)).cell? ⟨w.heap.size, 9, none⟩ = some (x) ∧ (w.alloc (.cells #[.slice At nt ct, .slice Ak nk ck, .int .i64 a, .int .i64 b, .int .i64 c, .int .i64 d, .int .i64 e, .int .i64 W, .int .i64 H, x, r, y] 41)).cell? ⟨w.heap.size, 10, none⟩ = some (r) ∧ (w.alloc (.cells #[.slice At nt ct, .slice Ak nk ck, .int .i64 a, .int .i64 b, .int .i64 c, .int .i64 d, .int .i64 e, .int .i64 W, .int .i64 H, x, r, y] 41)).cell? ⟨w.heap.size, 11, none⟩ = some (y) ∧ Kp w (w.alloc (.cells #[.slice At nt ct, .slice Ak nk ck, .int .i64 a, .int .i64 b, .int .i64 c, .int .i64 d, .int .i64 e, .int .i64 W, .int .i64 H, x, r, y] 41)) := ⟨by simp [go_sem], by simp [go_sem], by simp [go_sem], by simp [go_sem], by simp [go_sem], by simp [go_sem], by simp [go_sem], by simp [go_sem], by simp [go_sem], by simp [go_sem], by simp [go_sem], by simp [go_sem], (Kp.refl w).alloc _⟩
  have HB := Lib.hid hB
  have C1 := Lib.hid (fun (w : World) hB => vPair_any At Ak nt nk ct ck l m a b c d e W H x r y lt lr ld i k w hB)
  have CV : Hid (((brdOk ⟨l, m, a, b, c, d, e⟩ W H lt lr ld && onI W H i) && onI W H k) = true → ∀ w, Calls Tryz.prog 40 #[bv (.slice At nt ct) (.slice Ak nk ck) a b c d e W H x r y, .int .i64 i, .int .i64 k] w fun e' w' => ∃ v vs, e' = .returned v ∧ OwnII w' w.heap.size v (sgtL W i k) vs ∧ Kp w w') := Lib.hid fun h1 w => by
    simp only [Bool.and_eq_true] at h1
    exact vCells_any At Ak nt nk ct ck l m a b c d e W H x r y lt lr ld i k w h1.1.1 h1.1.2 h1.2
  clear hB
  cases hp : ((brdOk ⟨l, m, a, b, c, d, e⟩ W H lt lr ld && onI W H i) && onI W H k)
  · rw [hp] at C1
    clear CV
    go_enter Tryz.func12, Tryz.ntmps12
    go_wp2_with fail
    refine (C1.out _ (HB.out.keep s0.2.2.2.2.2.2.2.2.2.2.2.2)).mono ?_
    rintro e1 w1 ⟨rfl, k1⟩
    go_wp2_with fail
    go_ret2
    exact ⟨_, [], rfl, OwnII.nil _ _, s0.2.2.2.2.2.2.2.2.2.2.2.2.trans k1⟩
  · rw [hp] at C1
    have CV2 := Lib.hid (CV.out hp)
    clear CV hp
    go_enter Tryz.func12, Tryz.ntmps12
    go_wp2_with fail
    refine (C1.out _ (HB.out.keep s0.2.2.2.2.2.2.2.2.2.2.2.2)).mono ?_
    rintro e1 w1 ⟨rfl, k1⟩
    have s1 := keep12k k1 s0
    clear s0
    go_wp2_with fail
    refine (CV2.out _).mono ?_
    rintro e2 w2 ⟨v, vs, rfl, o2, k2⟩
    have K1 := s1.2.2.2.2.2.2.2.2.2.2.2.2
    have hz1 := K1.size
    have O2 := Lib.hid o2
    clear s1 o2
    go_wp2_with fail
    go_ret2
    exact ⟨_, _, rfl, O2.out.base hz1, K1.trans k2⟩

set_option maxRecDepth 100000 in
set_option maxHeartbeats 4000000 in
theorem sightCellsP_any (At Ak : Option Addr) (nt nk ct ck : Nat) (l : List Ter) (m : List Knd) (a b c d e W H : Int) (x r y : Value) (lt lr ld : List Int) (i k : Int) (w : World) (hs : Spans w) (ht : Tab w) (hB : BrdAt w At Ak nt nk l m x r y lt lr ld) :
    Calls Tryz.prog 14 #[bv (.slice At nt ct) (.slice Ak nk ck) a b c d e W H x r y, .int .i64 i, .int .i64 k] w (ListPostII ((brdOk ⟨l, m, a, b, c, d, e⟩ W H lt lr ld && onI W H i) && onI W H k) (sgtL W i k) w) := by
  have s0 : (w.alloc (.cells #[.slice At nt ct, .slice Ak nk ck, .int .i64 a, .int .i64 b, .int .i64 c, .int .i64 d, .int .i64 e, .int .i64 W, .int .i64 H, x, r, y] 41)).cell? ⟨w.heap.size, 0, none⟩ = some (.slice At nt ct) ∧ (w.alloc (.cells #[.slice At nt ct, .slice Ak nk ck, .int .i64 a, .int .i64 b, .int .i64 c, .int .i64 d, .int .i64 e, .int .i64 W, .int .i64 H, x, r, y] 41)).cell? ⟨w.heap.size, 1, none⟩ = some (.slice Ak nk ck) ∧ (w.alloc (.cells #[.slice At nt ct, .slice Ak nk ck, .int .i64 a, .int .i64 b, .int .i64 c, .int .i64 d, .int .i64 e, .int .i64 W, .int .i64 H, x, r, y] 41)).cell? ⟨w.heap.size, 2, none⟩ = some (.int .i64 a) ∧ (w.alloc (.cells #[.slice At nt ct, .slice Ak nk ck, .int .i64 a, .int .i64 b, .int .i64 c, .int .i64 d, .int .i64 e, .int .i64 W, .int .i64 H, x, r, y] 41)).cell? ⟨w.heap.size, 3, none⟩ = some (.int .i64 b) ∧ (w.alloc (.cells #[.slice At nt ct, .slice Ak nk ck, .int .i64 a, .int .i64 b, .int .i64 c, .int .i64 d, .int .i64 e, .int .i64 W, .int .i64 H, x, r, y] 41)).cell? ⟨w.heap.size, 4, none⟩ = some (.int .i64 c) ∧ (w.alloc (.cells #[.slice At nt ct, .slice Ak nk ck, .int .i64 a, .int .i64 b, .int .i64 c, .int .i64 d, .int .i64 e, .int .i64 W, .int .i64 H, x, r, y] 41)).cell? ⟨w.heap.size, 5, none⟩ = some (.int .i64 d) ∧ (w.alloc (.cells #[.slice At nt ct, .slice Ak nk ck, .int .i64 a, .int .i64 b, .int .i64 c, .int .i64 d, .int .i64 e, .int .i64 W, .int .i64 H, x, r, y] 41)).cell? ⟨w.heap.size, 6, none⟩ = some (.int .i64 e) ∧ (w.alloc (.cells #[.slice At nt ct, .slice Ak nk ck, .int .i64 a, .int .i64 b, .int .i64 c, .int .i64 d, .int .i64 e, .int .i64 W, .int .i64 H, x, r, y] 41)).cell? ⟨w.heap.size, 7, none⟩ = some (.int .i64 W) ∧ (w.alloc (.cells #[.slice At nt ct, .slice Ak nk ck, .int .i64 a, .int .i64 b, .int .i64 c, .int .i64 d, .int .i64 e, .int .i64 W, .int .i64 H, x, r, y] 41)).cell? ⟨w.heap.size, 8, none⟩ = some (.int .i64 H) ∧ (w.alloc (.cells #[.slice At nt ct, .slice Ak nk ck, .int .i64 a, .int .i64 b, .int .i64 c, .int .i64 d, .int .i64 e, .int .i64 W, .int .i64 H, x, r, y] 41)).cell? ⟨w.heap.size, 9, none⟩ = some (x) ∧ (w.alloc (.cells #[.slice At nt ct, .slice Ak nk ck, .int .i64 a, .int .i64 b, .int .i64 c, .int .i64 d, .int .i64 e, .int .i64 W, .int .i64 H, x, r, y] 41)).cell? ⟨w.heap.size, 10, none⟩ = some (r) ∧ (w.alloc (.cells #[.slice At nt ct, .slice Ak nk ck, .int .i64 a, .int .i64 b, .int .i64 c, .int .i64 d, .int .i64 e, .int .i64 W, .int .i64 H, x, r, y] 41)).cell? ⟨w.heap.size, 11, none⟩ = some (y) ∧ Kp w (w.alloc (.cells #[.slice At nt ct, .slice Ak nk ck, .int .i64 a, .int .i64 b, .int .i64 c, .int .i64 d, .int .i64 e, .int .i64 W, .int .i64 H, x, r, y] 41)) := ⟨by simp [go_sem], by simp [go_sem], by simp [go_sem], by simp [go_sem], by simp [go_sem], by simp [go_sem], by simp [go_sem], by simp [go_sem], by simp [go_sem], by simp [go_sem], by simp [go_sem], by simp [go_sem], (Kp.refl w).alloc _⟩
  have s1 := keep12k ((Kp.refl _).alloc (.cells #[.int .i64 i, .int .i64 k] 3)) s0
  have C1 := Lib.hid (areTwo_any At Ak nt nk ct ck l m a b c d e W H x r y lt lr ld i k w hs ht hB)
  have CV : Hid (((brdOk ⟨l, m, a, b, c, d, e⟩ W H lt lr ld && onI W H i) && onI W H k) = true → ∀ w, Calls Tryz.prog 44 #[mp W H x r y, .int .i64 i, .int .i64 k] w fun e' w' => ∃ v vs, e' = .returned v ∧ OwnII w' w.heap.size v (sgtL W i k) vs ∧ Kp w w') := Lib.hid fun h1 w => by
    simp only [Bool.and_eq_true] at h1
    obtain ⟨p1, p2, p3, p4⟩ := mapOk_side (brdOk_map h1.1.1)
    exact sightCells_any W H x r y i k w p1 p2 p3 p4 h1.1.2 h1.2
  clear hB hs ht
  cases hp : ((brdOk ⟨l, m, a, b, c, d, e⟩ W H lt lr ld && onI W H i) && onI W H k)
  · rw [hp] at C1
    clear CV
    go_enter Tryz.func14, Tryz.ntmps14
    go_wp2_with fail
    refine C1.out.mono ?_
    rintro e1 w1 ⟨rfl, k1⟩
    go_wp2_with fail
    go_ret2
    exact ⟨_, [], rfl, OwnII.nil _ _, s1.2.2.2.2.2.2.2.2.2.2.2.2.trans k1⟩
  · rw [hp] at C1
    have CV2 := Lib.hid (CV.out hp)
    clear CV hp
    go_enter Tryz.func14, Tryz.ntmps14
    go_wp2_with fail
    refine C1.out.mono ?_
    rintro e1 w1 ⟨rfl, k1⟩
    have s2 := keep12k k1 s1
    clear s0 s1
    go_wp2_with fail
    refine (CV2.out _).mono ?_
    rintro e2 w2 ⟨v, vs, rfl, o2, k2⟩
    have K1 := s2.2.2.2.2.2.2.2.2.2.2.2.2
    have hz1 := K1.size
    have O2 := Lib.hid o2
    clear s2 o2
    go_wp2_with fail
    go_ret2
    exact ⟨_, _, rfl, O2.out.base hz1, K1.trans k2⟩

end Go.Proofs.YtfohhofpfmbheaaGreatDoor
