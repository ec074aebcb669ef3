/-
  MirrorBoard of both sides on a valid board. Nothing that was there is changed. The named variables hold what the program's text lays.
-/
import Derived.Test.YtmolpkjdjkhnpaaGreatDoorRwO
import Derived.Test.YtmolpkjdjkhnpaaGreatDoorQc
import Derived.Test.YtmolpkjdjkhnpaaGreatDoorQe
namespace Go.Proofs.YtmolpkjdjkhnpaaGreatDoor
open Go.RowKit

theorem keep12k {W0 w w1 : World} {p0 p1 p2 p3 p4 p5 p6 p7 p8 p9 p10 p11 : Addr} {v0 v1 v2 v3 v4 v5 v6 v7 v8 v9 v10 v11 : Value} (k : Kp w w1) (h : w.cell? p0 = some v0 ∧ w.cell? p1 = some v1 ∧ w.cell? p2 = some v2 ∧ w.cell? p3 = some v3 ∧ w.cell? p4 = some v4 ∧ w.cell? p5 = some v5 ∧ w.cell? p6 = some v6 ∧ w.cell? p7 = some v7 ∧ w.cell? p8 = some v8 ∧ w.cell? p9 = some v9 ∧ w.cell? p10 = some v10 ∧ w.cell? p11 = some v11 ∧ Kp W0 w) : w1.cell? p0 = some v0 ∧ w1.cell? p1 = some v1 ∧ w1.cell? p2 = some v2 ∧ w1.cell? p3 = some v3 ∧ w1.cell? p4 = some v4 ∧ w1.cell? p5 = some v5 ∧ w1.cell? p6 = some v6 ∧ w1.cell? p7 = some v7 ∧ w1.cell? p8 = some v8 ∧ w1.cell? p9 = some v9 ∧ w1.cell? p10 = some v10 ∧ w1.cell? p11 = some v11 ∧ Kp W0 w1 :=
  ⟨k.cell h.1, k.cell h.2.1, k.cell h.2.2.1, k.cell h.2.2.2.1, k.cell h.2.2.2.2.1, k.cell h.2.2.2.2.2.1, k.cell h.2.2.2.2.2.2.1, k.cell h.2.2.2.2.2.2.2.1, k.cell h.2.2.2.2.2.2.2.2.1, k.cell h.2.2.2.2.2.2.2.2.2.1, k.cell h.2.2.2.2.2.2.2.2.2.2.1, k.cell h.2.2.2.2.2.2.2.2.2.2.2.1, h.2.2.2.2.2.2.2.2.2.2.2.2.trans k⟩
theorem drew12k {W0 w : World} {p0 p1 p2 p3 p4 p5 p6 p7 p8 p9 p10 p11 : Addr} {v0 v1 v2 v3 v4 v5 v6 v7 v8 v9 v10 v11 : Value} (h : w.cell? p0 = some v0 ∧ w.cell? p1 = some v1 ∧ w.cell? p2 = some v2 ∧ w.cell? p3 = some v3 ∧ w.cell? p4 = some v4 ∧ w.cell? p5 = some v5 ∧ w.cell? p6 = some v6 ∧ w.cell? p7 = some v7 ∧ w.cell? p8 = some v8 ∧ w.cell? p9 = some v9 ∧ w.cell? p10 = some v10 ∧ w.cell? p11 = some v11 ∧ Kp W0 w) : w.drew.cell? p0 = some v0 ∧ w.drew.cell? p1 = some v1 ∧ w.drew.cell? p2 = some v2 ∧ w.drew.cell? p3 = some v3 ∧ w.drew.cell? p4 = some v4 ∧ w.drew.cell? p5 = some v5 ∧ w.drew.cell? p6 = some v6 ∧ w.drew.cell? p7 = some v7 ∧ w.drew.cell? p8 = some v8 ∧ w.drew.cell? p9 = some v9 ∧ w.drew.cell? p10 = some v10 ∧ w.drew.cell? p11 = some v11 ∧ Kp W0 w.drew :=
  ⟨h.1, h.2.1, h.2.2.1, h.2.2.2.1, h.2.2.2.2.1, h.2.2.2.2.2.1, h.2.2.2.2.2.2.1, h.2.2.2.2.2.2.2.1, h.2.2.2.2.2.2.2.2.1, h.2.2.2.2.2.2.2.2.2.1, h.2.2.2.2.2.2.2.2.2.2.1, h.2.2.2.2.2.2.2.2.2.2.2.1, h.2.2.2.2.2.2.2.2.2.2.2.2.drew⟩

def mlT (W H : Int) (lt : List Int) : List Int := mirT W H lt lt.length lt.length
def mlE (W H : Int) (l : List Int) : List Int := (l.map (mirE W H)).mergeSort fun x y => decide (x ≤ y)
theorem mirT_mem {W H : Int} {lt : List Int} {n : Nat} {x : Int} : ∀ q, x ∈ mirT W H lt n q → x = 0 ∨ x ∈ lt
  | 0, h => Or.inl (List.eq_of_mem_replicate h)
  | q + 1, h => by
    rcases List.mem_or_eq_of_mem_set h with h1 | h1
    · exact mirT_mem q h1
    · cases hq : lt[q]? with
      | none => rw [hq] at h1; exact Or.inl h1
      | some y =>
        rw [hq] at h1
        obtain rfl : x = y := h1
        exact Or.inr (List.mem_of_getElem? hq)
theorem mirE_i64 {W H e : Int} (a : 1 ≤ W) (b : W ≤ 10) (c : 1 ≤ H) (d : H ≤ 10) (h0 : 0 ≤ e) (h1 : e < 1000) : isI64 (mirE W H e) := by
  unfold mirE
  have q0 : 0 ≤ e / 3 := by omega
  have q1 : e / 3 < 1000 := by omega
  generalize e / 3 = f at q0 q1 ⊢
  have m0 := Int.emod_nonneg f (show W ≠ 0 by omega)
  have m1 := Int.emod_lt_of_pos f (show 0 < W by omega)
  have m2 : 0 ≤ f / W := Int.ediv_nonneg q0 (by omega)
  have m3 : f / W ≤ f := Int.ediv_le_self _ q0
  have m4 : 0 ≤ f % W * H := Int.mul_nonneg m0 (by omega)
  have m5 : f % W * H ≤ 10 * 10 := Int.mul_le_mul (by omega) d (by omega) (by omega)
  obtain ⟨i, hi⟩ : ∃ i, mirI W H f = i := ⟨_, rfl⟩
  have hi2 := hi
  unfold mirI at hi2
  rw [hi]
  have i0 : 0 ≤ i ∧ i ≤ 1100 := by omega
  obtain ⟨x, hx⟩ : ∃ x, 5 - e % 3 = x := ⟨_, rfl⟩
  have x0 : 0 ≤ x ∧ x ≤ 5 := by omega
  rw [hx]
  have bd := dir_bd x
  have hd : i / H * H + i % H = i := by rw [Int.mul_comm]; exact Int.mul_ediv_add_emod i H
  have hr : -10 ≤ dirR x * H ∧ dirR x * H ≤ 10 := by
    have : dirR x = -1 ∨ dirR x = 0 ∨ dirR x = 1 := by omega
    rcases this with h | h | h <;> rw [h] <;> omega
  unfold edgI nbI idxM nbQ nbR isI64
  rw [Int.add_mul]
  split <;> omega
theorem mir_lists {W H : Int} {w w' : World} {x r y t' r' y' : Value} {lt lr ld : List Int} {base : Nat} (hL : Lists w x r y lt lr ld) (hok : mapOk W H lt lr ld = true) (o : Own3 w' base t' r' y' (mlT W H lt) (mlE W H lr) (mlE W H ld)) : Lists w' t' r' y' (mlT W H lt) (mlE W H lr) (mlE W H ld) := by
  obtain ⟨⟨a, b, c, d⟩, hn, hr, hd⟩ := mapOk_pt hok
  have hA := area_bd a b c d
  have he : ∀ l : List Int, edgesOk W H l = true → ∀ z ∈ mlE W H l, isI64 z := fun l hl z hz => by
    unfold mlE at hz
    rw [List.mem_mergeSort, List.mem_map] at hz
    obtain ⟨e, hel, rfl⟩ := hz
    rw [edgesOk_eq, Bool.and_eq_true] at hl
    have h1 := edgeB_true (List.all_eq_true.1 hl.1 e hel)
    simp only [inB, Bool.and_eq_true, decide_eq_true_iff] at h1
    exact mirE_i64 a b c d h1.1 (by omega)
  refine ⟨o.ot.rd, o.or.rd, o.od.rd, ?_, ?_, ?_, fun z hz => ?_, he lr hr, he ld hd⟩
  · unfold mlT; rw [mirT_length]; exact hL.bt
  · unfold mlE; rw [List.length_mergeSort, List.length_map]; exact hL.br
  · unfold mlE; rw [List.length_mergeSort, List.length_map]; exact hL.bd
  · rcases mirT_mem _ hz with h | h
    · rw [h]; unfold isI64; omega
    · exact hL.it z h
theorem brd_off {w W : World} {q b j : Nat} {v0 v1 v2 v3 v4 v5 v6 v7 v8 v9 v10 v11 u : Value} (h : W.cell? ⟨q, 0, none⟩ = some v0 ∧ W.cell? ⟨q, 1, none⟩ = some v1 ∧ W.cell? ⟨q, 2, none⟩ = some v2 ∧ W.cell? ⟨q, 3, none⟩ = some v3 ∧ W.cell? ⟨q, 4, none⟩ = some v4 ∧ W.cell? ⟨q, 5, none⟩ = some v5 ∧ W.cell? ⟨q, 6, none⟩ = some v6 ∧ W.cell? ⟨q, 7, none⟩ = some v7 ∧ W.cell? ⟨q, 8, none⟩ = some v8 ∧ W.cell? ⟨q, 9, none⟩ = some v9 ∧ W.cell? ⟨q, 10, none⟩ = some v10 ∧ W.cell? ⟨q, 11, none⟩ = some v11 ∧ Kp w W) (hb : q ≠ b) (hw : w.heap.size ≤ b) : (W.setCell ⟨b, j, none⟩ u).cell? ⟨q, 0, none⟩ = some v0 ∧ (W.setCell ⟨b, j, none⟩ u).cell? ⟨q, 1, none⟩ = some v1 ∧ (W.setCell ⟨b, j, none⟩ u).cell? ⟨q, 2, none⟩ = some v2 ∧ (W.setCell ⟨b, j, none⟩ u).cell? ⟨q, 3, none⟩ = some v3 ∧ (W.setCell ⟨b, j, none⟩ u).cell? ⟨q, 4, none⟩ = some v4 ∧ (W.setCell ⟨b, j, none⟩ u).cell? ⟨q, 5, none⟩ = some v5 ∧ (W.setCell ⟨b, j, none⟩ u).cell? ⟨q, 6, none⟩ = some v6 ∧ (W.setCell ⟨b, j, none⟩ u).cell? ⟨q, 7, none⟩ = some v7 ∧ (W.setCell ⟨b, j, none⟩ u).cell? ⟨q, 8, none⟩ = some v8 ∧ (W.setCell ⟨b, j, none⟩ u).cell? ⟨q, 9, none⟩ = some v9 ∧ (W.setCell ⟨b, j, none⟩ u).cell? ⟨q, 10, none⟩ = some v10 ∧ (W.setCell ⟨b, j, none⟩ u).cell? ⟨q, 11, none⟩ = some v11 ∧ Kp w (W.setCell ⟨b, j, none⟩ u) := by
  have ne : ∀ z : Nat, (W.setCell ⟨b, j, none⟩ u).cell? ⟨q, z, none⟩ = W.cell? ⟨q, z, none⟩ := fun z => World.cell?_setCell_other _ _ _ _ (fun e => by simp only [Addr.mk.injEq] at e; omega)
  exact ⟨(ne 0).trans h.1, (ne 1).trans h.2.1, (ne 2).trans h.2.2.1, (ne 3).trans h.2.2.2.1, (ne 4).trans h.2.2.2.2.1, (ne 5).trans h.2.2.2.2.2.1, (ne 6).trans h.2.2.2.2.2.2.1, (ne 7).trans h.2.2.2.2.2.2.2.1, (ne 8).trans h.2.2.2.2.2.2.2.2.1, (ne 9).trans h.2.2.2.2.2.2.2.2.2.1, (ne 10).trans h.2.2.2.2.2.2.2.2.2.2.1, (ne 11).trans h.2.2.2.2.2.2.2.2.2.2.2.1, (h.2.2.2.2.2.2.2.2.2.2.2.2).setCell (show w.heap.size ≤ (⟨b, j, none⟩ : Addr).block from hw) u⟩
theorem Own3.off {w : World} {base b j : Nat} {t r d : Value} {lt lr ld : List Int} (h : Own3 w base t r d lt lr ld) (hb : b < base) (u : Value) : Own3 (w.setCell ⟨b, j, none⟩ u) base t r d lt lr ld :=
  ⟨h.ot.far (h.ot.not hb) u, h.or.far (h.or.not hb) u, h.od.far (h.od.not hb) u, h.tr, h.td, h.rd⟩

set_option maxRecDepth 100000 in
set_option maxHeartbeats 4000000 in
theorem specMirrorBoard_g (gt ot gk ok nt nk ct ck : Nat) (l : List Ter) (m : List Knd) (a b c d e W H : Int) (x r y : Value) (lt lr ld : List Int) (w : World) (hB : BrdAt w (some ⟨gt, ot, none⟩) (some ⟨gk, ok, none⟩) nt nk l m x r y lt lr ld) (hok : brdOk ⟨l, m, a, b, c, d, e⟩ W H lt lr ld = true) :
    Calls Tryz.prog 5 #[bv (.slice (some ⟨gt, ot, none⟩) nt ct) (.slice (some ⟨gk, ok, none⟩) nk ck) a b c d e W H x r y] w fun e' w' => ∃ (g1 g2 c1 c2 : Nat) (A3 : Option Addr) (c3 : Nat) (A4 : Option Addr) (c4 : Nat) (A5 : Option Addr) (c5 : Nat), e' = .returned (.tuple #[bv (.slice (some ⟨g1, 0, none⟩) nt c1) (.slice (some ⟨g2, 0, none⟩) nk c2) a b c d e H W (.slice A3 (mlT W H lt).length c3) (.slice A4 (mlE W H lr).length c4) (.slice A5 (mlE W H ld).length c5), .bool true]) ∧ BrdAt w' (some ⟨g1, 0, none⟩) (some ⟨g2, 0, none⟩) nt nk l m (.slice A3 (mlT W H lt).length c3) (.slice A4 (mlE W H lr).length c4) (.slice A5 (mlE W H ld).length c5) (mlT W H lt) (mlE W H lr) (mlE W H ld) ∧ Kp w w' := by
  obtain ⟨LT, hLT⟩ : ∃ z, z = mlT W H lt := ⟨_, rfl⟩
  obtain ⟨LR, hLR⟩ : ∃ z, z = mlE W H lr := ⟨_, rfl⟩
  obtain ⟨LD, hLD⟩ : ∃ z, z = mlE W H ld := ⟨_, rfl⟩
  rw [← hLT, ← hLR, ← hLD]
  have k0 : Kp w ((w.alloc (.cells #[.slice (some ⟨gt, ot, none⟩) nt ct, .slice (some ⟨gk, ok, none⟩) nk ck, .int .i64 a, .int .i64 b, .int .i64 c, .int .i64 d, .int .i64 e, .int .i64 W, .int .i64 H, x, r, y] 38)).alloc (.cells #[.slice none 0 0, .slice none 0 0, .int .i64 0, .int .i64 0, .int .i64 0, .int .i64 0, .int .i64 0, .int .i64 0, .int .i64 0, .slice none 0 0, .slice none 0 0, .slice none 0 0] 38)) := ((Kp.refl w).alloc _).alloc _
  have s0 : ((w.alloc (.cells #[.slice (some ⟨gt, ot, none⟩) nt ct, .slice (some ⟨gk, ok, none⟩) nk ck, .int .i64 a, .int .i64 b, .int .i64 c, .int .i64 d, .int .i64 e, .int .i64 W, .int .i64 H, x, r, y] 38)).alloc (.cells #[.slice none 0 0, .slice none 0 0, .int .i64 0, .int .i64 0, .int .i64 0, .int .i64 0, .int .i64 0, .int .i64 0, .int .i64 0, .slice none 0 0, .slice none 0 0, .slice none 0 0] 38)).cell? ⟨w.heap.size, 0, none⟩ = some (.slice (some ⟨gt, ot, none⟩) nt ct) ∧ ((w.alloc (.cells #[.slice (some ⟨gt, ot, none⟩) nt ct, .slice (some ⟨gk, ok, none⟩) nk ck, .int .i64 a, .int .i64 b, .int .i64 c, .int .i64 d, .int .i64 e, .int .i64 W, .int .i64 H, x, r, y] 38)).alloc (.cells #[.slice none 0 0, .slice none 0 0, .int .i64 0, .int .i64 0, .int .i64 0, .int .i64 0, .int .i64 0, .int .i64 0, .int .i64 0, .slice none 0 0, .slice none 0 0, .slice none 0 0] 38)).cell? ⟨w.heap.size, 1, none⟩ = some (.slice (some ⟨gk, ok, none⟩) nk ck) ∧ ((w.alloc (.cells #[.slice (some ⟨gt, ot, none⟩) nt ct, .slice (some ⟨gk, ok, none⟩) nk ck, .int .i64 a, .int .i64 b, .int .i64 c, .int .i64 d, .int .i64 e, .int .i64 W, .int .i64 H, x, r, y] 38)).alloc (.cells #[.slice none 0 0, .slice none 0 0, .int .i64 0, .int .i64 0, .int .i64 0, .int .i64 0, .int .i64 0, .int .i64 0, .int .i64 0, .slice none 0 0, .slice none 0 0, .slice none 0 0] 38)).cell? ⟨w.heap.size, 2, none⟩ = some (.int .i64 a) ∧ ((w.alloc (.cells #[.slice (some ⟨gt, ot, none⟩) nt ct, .slice (some ⟨gk, ok, none⟩) nk ck, .int .i64 a, .int .i64 b, .int .i64 c, .int .i64 d, .int .i64 e, .int .i64 W, .int .i64 H, x, r, y] 38)).alloc (.cells #[.slice none 0 0, .slice none 0 0, .int .i64 0, .int .i64 0, .int .i64 0, .int .i64 0, .int .i64 0, .int .i64 0, .int .i64 0, .slice none 0 0, .slice none 0 0, .slice none 0 0] 38)).cell? ⟨w.heap.size, 3, none⟩ = some (.int .i64 b) ∧ ((w.alloc (.cells #[.slice (some ⟨gt, ot, none⟩) nt ct, .slice (some ⟨gk, ok, none⟩) nk ck, .int .i64 a, .int .i64 b, .int .i64 c, .int .i64 d, .int .i64 e, .int .i64 W, .int .i64 H, x, r, y] 38)).alloc (.cells #[.slice none 0 0, .slice none 0 0, .int .i64 0, .int .i64 0, .int .i64 0, .int .i64 0, .int .i64 0, .int .i64 0, .int .i64 0, .slice none 0 0, .slice none 0 0, .slice none 0 0] 38)).cell? ⟨w.heap.size, 4, none⟩ = some (.int .i64 c) ∧ ((w.alloc (.cells #[.slice (some ⟨gt, ot, none⟩) nt ct, .slice (some ⟨gk, ok, none⟩) nk ck, .int .i64 a, .int .i64 b, .int .i64 c, .int .i64 d, .int .i64 e, .int .i64 W, .int .i64 H, x, r, y] 38)).alloc (.cells #[.slice none 0 0, .slice none 0 0, .int .i64 0, .int .i64 0, .int .i64 0, .int .i64 0, .int .i64 0, .int .i64 0, .int .i64 0, .slice none 0 0, .slice none 0 0, .slice none 0 0] 38)).cell? ⟨w.heap.size, 5, none⟩ = some (.int .i64 d) ∧ ((w.alloc (.cells #[.slice (some ⟨gt, ot, none⟩) nt ct, .slice (some ⟨gk, ok, none⟩) nk ck, .int .i64 a, .int .i64 b, .int .i64 c, .int .i64 d, .int .i64 e, .int .i64 W, .int .i64 H, x, r, y] 38)).alloc (.cells #[.slice none 0 0, .slice none 0 0, .int .i64 0, .int .i64 0, .int .i64 0, .int .i64 0, .int .i64 0, .int .i64 0, .int .i64 0, .slice none 0 0, .slice none 0 0, .slice none 0 0] 38)).cell? ⟨w.heap.size, 6, none⟩ = some (.int .i64 e) ∧ ((w.alloc (.cells #[.slice (some ⟨gt, ot, none⟩) nt ct, .slice (some ⟨gk, ok, none⟩) nk ck, .int .i64 a, .int .i64 b, .int .i64 c, .int .i64 d, .int .i64 e, .int .i64 W, .int .i64 H, x, r, y] 38)).alloc (.cells #[.slice none 0 0, .slice none 0 0, .int .i64 0, .int .i64 0, .int .i64 0, .int .i64 0, .int .i64 0, .int .i64 0, .int .i64 0, .slice none 0 0, .slice none 0 0, .slice none 0 0] 38)).cell? ⟨w.heap.size, 7, none⟩ = some (.int .i64 W) ∧ ((w.alloc (.cells #[.slice (some ⟨gt, ot, none⟩) nt ct, .slice (some ⟨gk, ok, none⟩) nk ck, .int .i64 a, .int .i64 b, .int .i64 c, .int .i64 d, .int .i64 e, .int .i64 W, .int .i64 H, x, r, y] 38)).alloc (.cells #[.slice none 0 0, .slice none 0 0, .int .i64 0, .int .i64 0, .int .i64 0, .int .i64 0, .int .i64 0, .int .i64 0, .int .i64 0, .slice none 0 0, .slice none 0 0, .slice none 0 0] 38)).cell? ⟨w.heap.size, 8, none⟩ = some (.int .i64 H) ∧ ((w.alloc (.cells #[.slice (some ⟨gt, ot, none⟩) nt ct, .slice (some ⟨gk, ok, none⟩) nk ck, .int .i64 a, .int .i64 b, .int .i64 c, .int .i64 d, .int .i64 e, .int .i64 W, .int .i64 H, x, r, y] 38)).alloc (.cells #[.slice none 0 0, .slice none 0 0, .int .i64 0, .int .i64 0, .int .i64 0, .int .i64 0, .int .i64 0, .int .i64 0, .int .i64 0, .slice none 0 0, .slice none 0 0, .slice none 0 0] 38)).cell? ⟨w.heap.size, 9, none⟩ = some (x) ∧ ((w.alloc (.cells #[.slice (some ⟨gt, ot, none⟩) nt ct, .slice (some ⟨gk, ok, none⟩) nk ck, .int .i64 a, .int .i64 b, .int .i64 c, .int .i64 d, .int .i64 e, .int .i64 W, .int .i64 H, x, r, y] 38)).alloc (.cells #[.slice none 0 0, .slice none 0 0, .int .i64 0, .int .i64 0, .int .i64 0, .int .i64 0, .int .i64 0, .int .i64 0, .int .i64 0, .slice none 0 0, .slice none 0 0, .slice none 0 0] 38)).cell? ⟨w.heap.size, 10, none⟩ = some (r) ∧ ((w.alloc (.cells #[.slice (some ⟨gt, ot, none⟩) nt ct, .slice (some ⟨gk, ok, none⟩) nk ck, .int .i64 a, .int .i64 b, .int .i64 c, .int .i64 d, .int .i64 e, .int .i64 W, .int .i64 H, x, r, y] 38)).alloc (.cells #[.slice none 0 0, .slice none 0 0, .int .i64 0, .int .i64 0, .int .i64 0, .int .i64 0, .int .i64 0, .int .i64 0, .int .i64 0, .slice none 0 0, .slice none 0 0, .slice none 0 0] 38)).cell? ⟨w.heap.size, 11, none⟩ = some (y) ∧ Kp w ((w.alloc (.cells #[.slice (some ⟨gt, ot, none⟩) nt ct, .slice (some ⟨gk, ok, none⟩) nk ck, .int .i64 a, .int .i64 b, .int .i64 c, .int .i64 d, .int .i64 e, .int .i64 W, .int .i64 H, x, r, y] 38)).alloc (.cells #[.slice none 0 0, .slice none 0 0, .int .i64 0, .int .i64 0, .int .i64 0, .int .i64 0, .int .i64 0, .int .i64 0, .int .i64 0, .slice none 0 0, .slice none 0 0, .slice none 0 0] 38)) := ⟨by simp [go_sem], by simp [go_sem], by simp [go_sem], by simp [go_sem], by simp [go_sem], by simp [go_sem], by simp [go_sem], by simp [go_sem], by simp [go_sem], by simp [go_sem], by simp [go_sem], by simp [go_sem], k0⟩
  have L0 : Live12 ((w.alloc (.cells #[.slice (some ⟨gt, ot, none⟩) nt ct, .slice (some ⟨gk, ok, none⟩) nk ck, .int .i64 a, .int .i64 b, .int .i64 c, .int .i64 d, .int .i64 e, .int .i64 W, .int .i64 H, x, r, y] 38)).alloc (.cells #[.slice none 0 0, .slice none 0 0, .int .i64 0, .int .i64 0, .int .i64 0, .int .i64 0, .int .i64 0, .int .i64 0, .int .i64 0, .slice none 0 0, .slice none 0 0, .slice none 0 0] 38)) (w.heap.size + 1) (.slice none 0 0) (.slice none 0 0) (.int .i64 0) (.int .i64 0) (.int .i64 0) (.int .i64 0) (.int .i64 0) (.int .i64 0) (.int .i64 0) (.slice none 0 0) (.slice none 0 0) (.slice none 0 0) := ⟨by simp [go_sem], by simp [go_sem], by simp [go_sem], by simp [go_sem], by simp [go_sem], by simp [go_sem], by simp [go_sem], by simp [go_sem], by simp [go_sem], by simp [go_sem], by simp [go_sem], by simp [go_sem]⟩
  have hz0 : ((w.alloc (.cells #[.slice (some ⟨gt, ot, none⟩) nt ct, .slice (some ⟨gk, ok, none⟩) nk ck, .int .i64 a, .int .i64 b, .int .i64 c, .int .i64 d, .int .i64 e, .int .i64 W, .int .i64 H, x, r, y] 38)).alloc (.cells #[.slice none 0 0, .slice none 0 0, .int .i64 0, .int .i64 0, .int .i64 0, .int .i64 0, .int .i64 0, .int .i64 0, .int .i64 0, .slice none 0 0, .slice none 0 0, .slice none 0 0] 38)).heap.size = w.heap.size + 2 := by simp
  have HZ0 := Lib.hid hz0
  have hnt := rulOk_nt (brdOk_rul hok)
  have hlt := hB.R.rt.1
  have hlk := hB.R.rk.1
  have hcost : ∀ x ∈ l, 0 < x.cost.length := fun z hz => by
    have h1 := brdOk_rul hok
    simp only [rulOk, Bool.and_eq_true, List.all_eq_true] at h1
    have h2 := h1.2.1 z hz
    simp only [numT, Bool.and_eq_true, decide_eq_true_iff] at h2
    omega
  obtain ⟨⟨p1, p2, p3, p4⟩, q1, q2, q3⟩ := mapOk_pt (brdOk_map hok)
  have HB := Lib.hid hB
  have CG : Hid (∀ w, BrdAt w (some ⟨gt, ot, none⟩) (some ⟨gk, ok, none⟩) nt nk l m x r y lt lr ld → Calls Tryz.prog 13 #[bv (.slice (some ⟨gt, ot, none⟩) nt ct) (.slice (some ⟨gk, ok, none⟩) nk ck) a b c d e W H x r y] w fun e' w' => e' = .returned (.bool true) ∧ Kp w w') := Lib.hid fun w hB => by
    have := bGood_any (some ⟨gt, ot, none⟩) (some ⟨gk, ok, none⟩) nt nk ct ck l m a b c d e W H x r y lt lr ld w hB
    rw [hok] at this
    exact this
  have CR := Lib.hid (fun (w : World) (hB : BrdAt w (some ⟨gt, ot, none⟩) (some ⟨gk, ok, none⟩) nt nk l m x r y lt lr ld) => rOwn_any gt ot ct gk ok ck nt nk l m a b c d e w hB.R (by omega) (by omega) hcost (by omega))
  have CM := Lib.hid (fun (w : World) (hB : BrdAt w (some ⟨gt, ot, none⟩) (some ⟨gk, ok, none⟩) nt nk l m x r y lt lr ld) => (show Calls Tryz.prog 15 #[mp W H x r y] w (ToMapPost H W LT LR LD w) by rw [hLT, hLR, hLD]; exact mMirror_any W H x r y lt lr ld w p1 p2 p3 p4 hB.L q1 q2 q3))
  have HF : Hid (∀ (w' : World) (t' r' y' : Value) (base : Nat), Own3 w' base t' r' y' LT LR LD → Lists w' t' r' y' LT LR LD) := Lib.hid fun w' t' r' y' base o => by
    rw [hLT, hLR, hLD] at o ⊢
    exact mir_lists hB.L (brdOk_map hok) o
  have HLT : Hid (l.length = nt) := Lib.hid hlt
  have hn0 : 0 < nt := by omega
  clear hB hok hnt hlt hlk hcost p1 p2 p3 p4 q1 q2 q3 hz0 hLT hLR hLD
  go_enter Tryz.func5, Tryz.ntmps5
  go_wp2_with fail
  refine (CG.out _ (HB.out.keep s0.2.2.2.2.2.2.2.2.2.2.2.2)).mono ?_
  rintro e1 w1 ⟨rfl, k1⟩
  have s1 : w1.cell? ⟨w.heap.size, 0, none⟩ = some (.slice (some ⟨gt, ot, none⟩) nt ct) ∧ w1.cell? ⟨w.heap.size, 1, none⟩ = some (.slice (some ⟨gk, ok, none⟩) nk ck) ∧ w1.cell? ⟨w.heap.size, 2, none⟩ = some (.int .i64 a) ∧ w1.cell? ⟨w.heap.size, 3, none⟩ = some (.int .i64 b) ∧ w1.cell? ⟨w.heap.size, 4, none⟩ = some (.int .i64 c) ∧ w1.cell? ⟨w.heap.size, 5, none⟩ = some (.int .i64 d) ∧ w1.cell? ⟨w.heap.size, 6, none⟩ = some (.int .i64 e) ∧ w1.cell? ⟨w.heap.size, 7, none⟩ = some (.int .i64 W) ∧ w1.cell? ⟨w.heap.size, 8, none⟩ = some (.int .i64 H) ∧ w1.cell? ⟨w.heap.size, 9, none⟩ = some (x) ∧ w1.cell? ⟨w.heap.size, 10, none⟩ = some (r) ∧ w1.cell? ⟨w.heap.size, 11, none⟩ = some (y) ∧ Kp w w1 := ⟨k1.cell s0.1, k1.cell s0.2.1, k1.cell s0.2.2.1, k1.cell s0.2.2.2.1, k1.cell s0.2.2.2.2.1, k1.cell s0.2.2.2.2.2.1, k1.cell s0.2.2.2.2.2.2.1, k1.cell s0.2.2.2.2.2.2.2.1, k1.cell s0.2.2.2.2.2.2.2.2.1, k1.cell s0.2.2.2.2.2.2.2.2.2.1, k1.cell s0.2.2.2.2.2.2.2.2.2.2.1, k1.cell s0.2.2.2.2.2.2.2.2.2.2.2.1, s0.2.2.2.2.2.2.2.2.2.2.2.2.trans k1⟩
  have L1 := live12_keep k1 L0
  have hz1 : w.heap.size + 2 ≤ w1.heap.size := by rw [← HZ0.out]; exact k1.size
  clear s0 L0 k1 k0 HZ0
  go_upto_region 3 with (fail)
  have s2 : w1.drew.cell? ⟨w.heap.size, 0, none⟩ = some (.slice (some ⟨gt, ot, none⟩) nt ct) ∧ w1.drew.cell? ⟨w.heap.size, 1, none⟩ = some (.slice (some ⟨gk, ok, none⟩) nk ck) ∧ w1.drew.cell? ⟨w.heap.size, 2, none⟩ = some (.int .i64 a) ∧ w1.drew.cell? ⟨w.heap.size, 3, none⟩ = some (.int .i64 b) ∧ w1.drew.cell? ⟨w.heap.size, 4, none⟩ = some (.int .i64 c) ∧ w1.drew.cell? ⟨w.heap.size, 5, none⟩ = some (.int .i64 d) ∧ w1.drew.cell? ⟨w.heap.size, 6, none⟩ = some (.int .i64 e) ∧ w1.drew.cell? ⟨w.heap.size, 7, none⟩ = some (.int .i64 W) ∧ w1.drew.cell? ⟨w.heap.size, 8, none⟩ = some (.int .i64 H) ∧ w1.drew.cell? ⟨w.heap.size, 9, none⟩ = some (x) ∧ w1.drew.cell? ⟨w.heap.size, 10, none⟩ = some (r) ∧ w1.drew.cell? ⟨w.heap.size, 11, none⟩ = some (y) ∧ Kp w w1.drew := ⟨s1.1, s1.2.1, s1.2.2.1, s1.2.2.2.1, s1.2.2.2.2.1, s1.2.2.2.2.2.1, s1.2.2.2.2.2.2.1, s1.2.2.2.2.2.2.2.1, s1.2.2.2.2.2.2.2.2.1, s1.2.2.2.2.2.2.2.2.2.1, s1.2.2.2.2.2.2.2.2.2.2.1, s1.2.2.2.2.2.2.2.2.2.2.2.1, s1.2.2.2.2.2.2.2.2.2.2.2.2.drew⟩
  have L2 : Live12 w1.drew (w.heap.size + 1) (.slice none 0 0) (.slice none 0 0) (.int .i64 0) (.int .i64 0) (.int .i64 0) (.int .i64 0) (.int .i64 0) (.int .i64 0) (.int .i64 0) (.slice none 0 0) (.slice none 0 0) (.slice none 0 0) := live12_keep ((Kp.refl w1).drew) L1
  have hz2 : w.heap.size + 2 ≤ w1.drew.heap.size := hz1
  clear s1 L1 hz1
  refine wp_region_held_drew (S := (fun w' => w'.cell? ⟨w.heap.size, 0, none⟩ = some (.slice (some ⟨gt, ot, none⟩) nt ct) ∧ w'.cell? ⟨w.heap.size, 1, none⟩ = some (.slice (some ⟨gk, ok, none⟩) nk ck) ∧ w'.cell? ⟨w.heap.size, 2, none⟩ = some (.int .i64 a) ∧ w'.cell? ⟨w.heap.size, 3, none⟩ = some (.int .i64 b) ∧ w'.cell? ⟨w.heap.size, 4, none⟩ = some (.int .i64 c) ∧ w'.cell? ⟨w.heap.size, 5, none⟩ = some (.int .i64 d) ∧ w'.cell? ⟨w.heap.size, 6, none⟩ = some (.int .i64 e) ∧ w'.cell? ⟨w.heap.size, 7, none⟩ = some (.int .i64 W) ∧ w'.cell? ⟨w.heap.size, 8, none⟩ = some (.int .i64 H) ∧ w'.cell? ⟨w.heap.size, 9, none⟩ = some (x) ∧ w'.cell? ⟨w.heap.size, 10, none⟩ = some (r) ∧ w'.cell? ⟨w.heap.size, 11, none⟩ = some (y) ∧ Kp w w')) (by kernel_rfl) ?_ (fun hHeld => ?_)
  · assumption
  generalize w1.drew = V at *
  refine wpAnyH_take (i := 0) (oi := ⟨some 8, _, _, _, _, _⟩) (v := ?_) rfl (by kernel_rfl) (by kernel_rfl) (by kernel_rfl) (fun _ _ _ h => h) (Or.inl ⟨by rfl, ?_⟩) (by assumption) ?_
  rotate_left
  · intro w hSw; (try dsimp only at hSw); go_simp; (all_goals with_reducible rfl)
  try simp only [Act.put, List.setIfInBounds_toArray, List.set_cons_zero, List.set_cons_succ]
  refine wpAnyH_take (i := 1) (oi := ⟨some 9, _, _, _, _, _⟩) (v := ?_) rfl (by kernel_rfl) (by kernel_rfl) (by kernel_rfl) (fun _ _ _ h => h) (Or.inl ⟨by rfl, ?_⟩) (by assumption) ?_
  rotate_left
  · intro w hSw; (try dsimp only at hSw); go_simp; (all_goals with_reducible rfl)
  try simp only [Act.put, List.setIfInBounds_toArray, List.set_cons_zero, List.set_cons_succ]
  refine wpAnyH_take (i := 3) (oi := ⟨some 11, _, _, _, _, _⟩) (v := ?_) rfl (by kernel_rfl) (by kernel_rfl) (by kernel_rfl) (fun _ _ _ h => h) (Or.inl ⟨by rfl, ?_⟩) (by assumption) ?_
  rotate_left
  · intro w hSw; (try dsimp only at hSw); go_simp; (all_goals with_reducible rfl)
  try simp only [Act.put, List.setIfInBounds_toArray, List.set_cons_zero, List.set_cons_succ]
  refine wpAnyH_take (i := 4) (oi := ⟨some 12, _, _, _, _, _⟩) (v := ?_) rfl (by kernel_rfl) (by kernel_rfl) (by kernel_rfl) (fun _ _ _ h => h) (Or.inl ⟨by rfl, ?_⟩) (by assumption) ?_
  rotate_left
  · intro w hSw; (try dsimp only at hSw); go_simp; (all_goals with_reducible rfl)
  try simp only [Act.put, List.setIfInBounds_toArray, List.set_cons_zero, List.set_cons_succ]
  refine wpAnyH_ready (rs := [2]) (by kernel_rfl) (by simp) ?_
  refine (AllReadyH.cons (o := ⟨some 10, _, _, _, _, _⟩) rfl (fun K hK => ?_) AllReadyH.nil)
  go_simp
  refine (CR.out _ (HB.out.keep hHeld.2.2.2.2.2.2.2.2.2.2.2.2)).mono ?_
  rintro e2 w2 ⟨g1, g2, c1, c2, rfl, ⟨ys, o2⟩, ⟨lo2, zs, hlo2, z2⟩, k2⟩
  have hS2 : w2.cell? ⟨w.heap.size, 0, none⟩ = some (.slice (some ⟨gt, ot, none⟩) nt ct) ∧ w2.cell? ⟨w.heap.size, 1, none⟩ = some (.slice (some ⟨gk, ok, none⟩) nk ck) ∧ w2.cell? ⟨w.heap.size, 2, none⟩ = some (.int .i64 a) ∧ w2.cell? ⟨w.heap.size, 3, none⟩ = some (.int .i64 b) ∧ w2.cell? ⟨w.heap.size, 4, none⟩ = some (.int .i64 c) ∧ w2.cell? ⟨w.heap.size, 5, none⟩ = some (.int .i64 d) ∧ w2.cell? ⟨w.heap.size, 6, none⟩ = some (.int .i64 e) ∧ w2.cell? ⟨w.heap.size, 7, none⟩ = some (.int .i64 W) ∧ w2.cell? ⟨w.heap.size, 8, none⟩ = some (.int .i64 H) ∧ w2.cell? ⟨w.heap.size, 9, none⟩ = some (x) ∧ w2.cell? ⟨w.heap.size, 10, none⟩ = some (r) ∧ w2.cell? ⟨w.heap.size, 11, none⟩ = some (y) ∧ Kp w w2 := ⟨k2.cell hHeld.1, k2.cell hHeld.2.1, k2.cell hHeld.2.2.1, k2.cell hHeld.2.2.2.1, k2.cell hHeld.2.2.2.2.1, k2.cell hHeld.2.2.2.2.2.1, k2.cell hHeld.2.2.2.2.2.2.1, k2.cell hHeld.2.2.2.2.2.2.2.1, k2.cell hHeld.2.2.2.2.2.2.2.2.1, k2.cell hHeld.2.2.2.2.2.2.2.2.2.1, k2.cell hHeld.2.2.2.2.2.2.2.2.2.2.1, k2.cell hHeld.2.2.2.2.2.2.2.2.2.2.2.1, hHeld.2.2.2.2.2.2.2.2.2.2.2.2.trans k2⟩
  have L3 := live12_keep k2 L2
  have O2 := Lib.hid o2
  have Z2 := Lib.hid z2
  have hz3 := k2.size
  clear o2 z2 L2
  go_wp2_with fail
  refine hK.out _ _ ?_ (fun hHeld => ?_)
  · (try dsimp only); (first | assumption)
  clear hK K
  try simp only [Act.put, List.setIfInBounds_toArray, List.set_cons_zero, List.set_cons_succ]
  refine wpAnyH_ready (rs := [5]) (by kernel_rfl) (by simp) ?_
  refine (AllReadyH.cons (o := ⟨some 13, _, _, _, _, _⟩) rfl (fun K hK => ?_) AllReadyH.nil)
  go_simp
  refine (CM.out _ (HB.out.keep hHeld.2.2.2.2.2.2.2.2.2.2.2.2)).mono ?_
  rintro e4 w4 ⟨t', r', y', rfl, o4, k4⟩
  obtain ⟨A3, c3, rfl⟩ := o4.ot.slice
  obtain ⟨A4, c4, rfl⟩ := o4.or.slice
  obtain ⟨A5, c5, rfl⟩ := o4.od.slice
  have hS4 : w4.cell? ⟨w.heap.size, 0, none⟩ = some (.slice (some ⟨gt, ot, none⟩) nt ct) ∧ w4.cell? ⟨w.heap.size, 1, none⟩ = some (.slice (some ⟨gk, ok, none⟩) nk ck) ∧ w4.cell? ⟨w.heap.size, 2, none⟩ = some (.int .i64 a) ∧ w4.cell? ⟨w.heap.size, 3, none⟩ = some (.int .i64 b) ∧ w4.cell? ⟨w.heap.size, 4, none⟩ = some (.int .i64 c) ∧ w4.cell? ⟨w.heap.size, 5, none⟩ = some (.int .i64 d) ∧ w4.cell? ⟨w.heap.size, 6, none⟩ = some (.int .i64 e) ∧ w4.cell? ⟨w.heap.size, 7, none⟩ = some (.int .i64 W) ∧ w4.cell? ⟨w.heap.size, 8, none⟩ = some (.int .i64 H) ∧ w4.cell? ⟨w.heap.size, 9, none⟩ = some (x) ∧ w4.cell? ⟨w.heap.size, 10, none⟩ = some (r) ∧ w4.cell? ⟨w.heap.size, 11, none⟩ = some (y) ∧ Kp w w4 := ⟨k4.cell hHeld.1, k4.cell hHeld.2.1, k4.cell hHeld.2.2.1, k4.cell hHeld.2.2.2.1, k4.cell hHeld.2.2.2.2.1, k4.cell hHeld.2.2.2.2.2.1, k4.cell hHeld.2.2.2.2.2.2.1, k4.cell hHeld.2.2.2.2.2.2.2.1, k4.cell hHeld.2.2.2.2.2.2.2.2.1, k4.cell hHeld.2.2.2.2.2.2.2.2.2.1, k4.cell hHeld.2.2.2.2.2.2.2.2.2.2.1, k4.cell hHeld.2.2.2.2.2.2.2.2.2.2.2.1, hHeld.2.2.2.2.2.2.2.2.2.2.2.2.trans k4⟩
  have L4 := live12_keep k4 L3
  have O4 := Lib.hid (O2.out.keep k4)
  have Z4 := Lib.hid (Z2.out.keep k4)
  have M4 := Lib.hid o4
  have hz4 := k4.size
  clear o4 L3 O2 Z2
  go_wp2_with fail
  refine hK.out _ _ ?_ (fun hHeld => ?_)
  · (try dsimp only); (first | assumption)
  clear hK K
  try simp only [Act.put, List.setIfInBounds_toArray, List.set_cons_zero, List.set_cons_succ]
  refine wpAnyH_take (i := 6) (oi := ⟨some 14, _, _, _, _, _⟩) (v := ?_) rfl (by kernel_rfl) (by kernel_rfl) (by kernel_rfl) (fun _ _ _ h => h) (Or.inl ⟨by rfl, ?_⟩) (by assumption) ?_
  rotate_left
  · intro w hSw; (try dsimp only at hSw); go_simp; (all_goals with_reducible rfl)
  try simp only [Act.put, List.setIfInBounds_toArray, List.set_cons_zero, List.set_cons_succ]
  refine wpAnyH_ready (rs := [7]) (by kernel_rfl) (by simp) ?_
  refine (AllReadyH.cons (o := ⟨none, _, _, _, _, _⟩) rfl (fun K hK => ?_) AllReadyH.nil)
  go_simp
  go_wp2_with fail
  refine hK.out _ _ ?_ (fun hHeld => ?_)
  · exact (brd_off (brd_off (brd_off (brd_off (brd_off (brd_off (brd_off (brd_off (brd_off (brd_off (brd_off (brd_off hHeld (by omega) (by omega)) (by omega) (by omega)) (by omega) (by omega)) (by omega) (by omega)) (by omega) (by omega)) (by omega) (by omega)) (by omega) (by omega)) (by omega) (by omega)) (by omega) (by omega)) (by omega) (by omega)) (by omega) (by omega)) (by omega) (by omega))
  clear hK K
  try simp only [Act.put, List.setIfInBounds_toArray, List.set_cons_zero, List.set_cons_succ]
  refine wpAnyH_take (i := 8) (oi := ⟨some 3, _, _, _, _, _⟩) (v := ?_) rfl (by kernel_rfl) (by kernel_rfl) (by kernel_rfl) (fun _ _ _ h => h) (Or.inl ⟨by rfl, ?_⟩) (by assumption) ?_
  rotate_left
  · intro w hSw; (try dsimp only at hSw); go_simp; (all_goals with_reducible rfl)
  try simp only [Act.put, List.setIfInBounds_toArray, List.set_cons_zero, List.set_cons_succ]
  refine wpAnyH_done (by kernel_rfl) ?_ _
  go_wp2_with fail
  refine bodyPost_ret (v := .tuple #[bv (.slice (some ⟨g1, 0, none⟩) nt c1) (.slice (some ⟨g2, 0, none⟩) nk c2) a b c d e H W (.slice A3 LT.length c3) (.slice A4 LR.length c4) (.slice A5 LD.length c5), .bool true]) (by simp [results, Tryz.results5, go_sem, *]) rfl ⟨g1, g2, c1, c2, A3, c3, A4, c4, A5, c5, rfl, ⟨⟨?_, ?_, HB.out.R.bt, HB.out.R.bk, HB.out.R.bc, HB.out.R.bn⟩, ?_⟩, hHeld.2.2.2.2.2.2.2.2.2.2.2.2⟩
  · exact ((((((((((((O4.out.off (Or.inl (by omega)) _).off (Or.inl (by omega)) _).off (Or.inl (by omega)) _).off (Or.inl (by omega)) _).off (Or.inl (by omega)) _).off (Or.inl (by omega)) _).off (Or.inl (by omega)) _).off (Or.inl (by omega)) _).off (Or.inl (by omega)) _).off (Or.inl (by omega)) _).off (Or.inl (by omega)) _).off (Or.inl (by omega)) _).rdS HLT.out hn0
  · exact ((((((((((((Z4.out.far (by omega) _).far (by omega) _).far (by omega) _).far (by omega) _).far (by omega) _).far (by omega) _).far (by omega) _).far (by omega) _).far (by omega) _).far (by omega) _).far (by omega) _).far (by omega) _).rd
  · exact HF.out _ _ _ _ w2.heap.size ((((((((((((M4.out.off (by omega) _).off (by omega) _).off (by omega) _).off (by omega) _).off (by omega) _).off (by omega) _).off (by omega) _).off (by omega) _).off (by omega) _).off (by omega) _).off (by omega) _).off (by omega) _)
theorem brd_off17 {w W : World} {q p b j : Nat} {v0 v1 v2 v3 v4 v5 v6 v7 v8 v9 v10 v11 u0 u1 u2 u3 u4 u : Value} (h : W.cell? ⟨q, 0, none⟩ = some v0 ∧ W.cell? ⟨q, 1, none⟩ = some v1 ∧ W.cell? ⟨q, 2, none⟩ = some v2 ∧ W.cell? ⟨q, 3, none⟩ = some v3 ∧ W.cell? ⟨q, 4, none⟩ = some v4 ∧ W.cell? ⟨q, 5, none⟩ = some v5 ∧ W.cell? ⟨q, 6, none⟩ = some v6 ∧ W.cell? ⟨q, 7, none⟩ = some v7 ∧ W.cell? ⟨q, 8, none⟩ = some v8 ∧ W.cell? ⟨q, 9, none⟩ = some v9 ∧ W.cell? ⟨q, 10, none⟩ = some v10 ∧ W.cell? ⟨q, 11, none⟩ = some v11 ∧ W.cell? ⟨p, 0, none⟩ = some u0 ∧ W.cell? ⟨p, 1, none⟩ = some u1 ∧ W.cell? ⟨p, 2, none⟩ = some u2 ∧ W.cell? ⟨p, 3, none⟩ = some u3 ∧ W.cell? ⟨p, 4, none⟩ = some u4 ∧ Kp w W) (hb : q ≠ b) (hp : p ≠ b) (hw : w.heap.size ≤ b) : (W.setCell ⟨b, j, none⟩ u).cell? ⟨q, 0, none⟩ = some v0 ∧ (W.setCell ⟨b, j, none⟩ u).cell? ⟨q, 1, none⟩ = some v1 ∧ (W.setCell ⟨b, j, none⟩ u).cell? ⟨q, 2, none⟩ = some v2 ∧ (W.setCell ⟨b, j, none⟩ u).cell? ⟨q, 3, none⟩ = some v3 ∧ (W.setCell ⟨b, j, none⟩ u).cell? ⟨q, 4, none⟩ = some v4 ∧ (W.setCell ⟨b, j, none⟩ u).cell? ⟨q, 5, none⟩ = some v5 ∧ (W.setCell ⟨b, j, none⟩ u).cell? ⟨q, 6, none⟩ = some v6 ∧ (W.setCell ⟨b, j, none⟩ u).cell? ⟨q, 7, none⟩ = some v7 ∧ (W.setCell ⟨b, j, none⟩ u).cell? ⟨q, 8, none⟩ = some v8 ∧ (W.setCell ⟨b, j, none⟩ u).cell? ⟨q, 9, none⟩ = some v9 ∧ (W.setCell ⟨b, j, none⟩ u).cell? ⟨q, 10, none⟩ = some v10 ∧ (W.setCell ⟨b, j, none⟩ u).cell? ⟨q, 11, none⟩ = some v11 ∧ (W.setCell ⟨b, j, none⟩ u).cell? ⟨p, 0, none⟩ = some u0 ∧ (W.setCell ⟨b, j, none⟩ u).cell? ⟨p, 1, none⟩ = some u1 ∧ (W.setCell ⟨b, j, none⟩ u).cell? ⟨p, 2, none⟩ = some u2 ∧ (W.setCell ⟨b, j, none⟩ u).cell? ⟨p, 3, none⟩ = some u3 ∧ (W.setCell ⟨b, j, none⟩ u).cell? ⟨p, 4, none⟩ = some u4 ∧ Kp w (W.setCell ⟨b, j, none⟩ u) := by
  have ne : ∀ f z : Nat, f ≠ b → (W.setCell ⟨b, j, none⟩ u).cell? ⟨f, z, none⟩ = W.cell? ⟨f, z, none⟩ := fun f z hf => World.cell?_setCell_other _ _ _ _ (fun e => by simp only [Addr.mk.injEq] at e; omega)
  exact ⟨(ne q 0 hb).trans h.1, (ne q 1 hb).trans h.2.1, (ne q 2 hb).trans h.2.2.1, (ne q 3 hb).trans h.2.2.2.1, (ne q 4 hb).trans h.2.2.2.2.1, (ne q 5 hb).trans h.2.2.2.2.2.1, (ne q 6 hb).trans h.2.2.2.2.2.2.1, (ne q 7 hb).trans h.2.2.2.2.2.2.2.1, (ne q 8 hb).trans h.2.2.2.2.2.2.2.2.1, (ne q 9 hb).trans h.2.2.2.2.2.2.2.2.2.1, (ne q 10 hb).trans h.2.2.2.2.2.2.2.2.2.2.1, (ne q 11 hb).trans h.2.2.2.2.2.2.2.2.2.2.2.1, (ne p 0 hp).trans h.2.2.2.2.2.2.2.2.2.2.2.2.1, (ne p 1 hp).trans h.2.2.2.2.2.2.2.2.2.2.2.2.2.1, (ne p 2 hp).trans h.2.2.2.2.2.2.2.2.2.2.2.2.2.2.1, (ne p 3 hp).trans h.2.2.2.2.2.2.2.2.2.2.2.2.2.2.2.1, (ne p 4 hp).trans h.2.2.2.2.2.2.2.2.2.2.2.2.2.2.2.2.1, (h.2.2.2.2.2.2.2.2.2.2.2.2.2.2.2.2.2).setCell (show w.heap.size ≤ (⟨b, j, none⟩ : Addr).block from hw) u⟩
/-- A board in memory of its own: the map's lists below lo, the terrains and their costs in lo .. mid - 1, the kinds from mid on. -/
structure GOwnB (w : World) (mlo lo mid hi g1 g2 nt nk c1 c2 : Nat) (l : List Ter) (m : List Knd) (cs : List (Option Addr × Nat)) (ys zs : List Value) (t r d : Value) (LT LR LD : List Int) : Prop where
  T : TerB w lo mid g1 nt c1 l cs ys
  K : KndB w mid hi g2 nk c2 m zs
  M : Own3 w mlo t r d LT LR LD
  i1 : ∀ g, t.ownBlock = some g → g < lo
  i2 : ∀ g, r.ownBlock = some g → g < lo
  i3 : ∀ g, d.ownBlock = some g → g < lo
  h1 : mlo ≤ lo
  h2 : lo ≤ mid
  h3 : mid ≤ hi
  h4 : hi ≤ w.heap.size
set_option maxRecDepth 100000 in
set_option maxHeartbeats 4000000 in
theorem implMirrorBoard_g (gt ot gk ok nt nk ct ck : Nat) (l : List Ter) (m : List Knd) (a b c d e W H : Int) (x r y : Value) (lt lr ld : List Int) (w : World) (hs : Spans w) (ht : Tab w) (hB : BrdAt w (some ⟨gt, ot, none⟩) (some ⟨gk, ok, none⟩) nt nk l m x r y lt lr ld) (hok : brdOk ⟨l, m, a, b, c, d, e⟩ W H lt lr ld = true) :
    Calls Tryz.prog 7 #[bv (.slice (some ⟨gt, ot, none⟩) nt ct) (.slice (some ⟨gk, ok, none⟩) nk ck) a b c d e W H x r y] w fun e' w' => ∃ (mlo lo mid hi g1 g2 c1 c2 : Nat) (cs : List (Option Addr × Nat)) (ys zs : List Value) (A3 : Option Addr) (c3 : Nat) (A4 : Option Addr) (c4 : Nat) (A5 : Option Addr) (c5 : Nat), e' = .returned (.tuple #[bv (.slice (some ⟨g1, 0, none⟩) nt c1) (.slice (some ⟨g2, 0, none⟩) nk c2) a b c d e H W (.slice A3 (mlT W H lt).length c3) (.slice A4 (mlE W H lr).length c4) (.slice A5 (mlE W H ld).length c5), .bool true]) ∧ GOwnB w' mlo lo mid hi g1 g2 nt nk c1 c2 l m cs ys zs (.slice A3 (mlT W H lt).length c3) (.slice A4 (mlE W H lr).length c4) (.slice A5 (mlE W H ld).length c5) (mlT W H lt) (mlE W H lr) (mlE W H ld) ∧ w.heap.size ≤ mlo ∧ Lists w' (.slice A3 (mlT W H lt).length c3) (.slice A4 (mlE W H lr).length c4) (.slice A5 (mlE W H ld).length c5) (mlT W H lt) (mlE W H lr) (mlE W H ld) ∧ Kp w w' := by
  obtain ⟨LT, hLT⟩ : ∃ z, z = mlT W H lt := ⟨_, rfl⟩
  obtain ⟨LR, hLR⟩ : ∃ z, z = mlE W H lr := ⟨_, rfl⟩
  obtain ⟨LD, hLD⟩ : ∃ z, z = mlE W H ld := ⟨_, rfl⟩
  rw [← hLT, ← hLR, ← hLD]
  have k0 : Kp w ((w.alloc (.cells #[.slice (some ⟨gt, ot, none⟩) nt ct, .slice (some ⟨gk, ok, none⟩) nk ck, .int .i64 a, .int .i64 b, .int .i64 c, .int .i64 d, .int .i64 e, .int .i64 W, .int .i64 H, x, r, y] 38)).alloc (.cells #[.slice none 0 0, .slice none 0 0, .int .i64 0, .int .i64 0, .int .i64 0, .int .i64 0, .int .i64 0, .int .i64 0, .int .i64 0, .slice none 0 0, .slice none 0 0, .slice none 0 0] 38)) := ((Kp.refl w).alloc _).alloc _
  have s0 : ((w.alloc (.cells #[.slice (some ⟨gt, ot, none⟩) nt ct, .slice (some ⟨gk, ok, none⟩) nk ck, .int .i64 a, .int .i64 b, .int .i64 c, .int .i64 d, .int .i64 e, .int .i64 W, .int .i64 H, x, r, y] 38)).alloc (.cells #[.slice none 0 0, .slice none 0 0, .int .i64 0, .int .i64 0, .int .i64 0, .int .i64 0, .int .i64 0, .int .i64 0, .int .i64 0, .slice none 0 0, .slice none 0 0, .slice none 0 0] 38)).cell? ⟨w.heap.size, 0, none⟩ = some (.slice (some ⟨gt, ot, none⟩) nt ct) ∧ ((w.alloc (.cells #[.slice (some ⟨gt, ot, none⟩) nt ct, .slice (some ⟨gk, ok, none⟩) nk ck, .int .i64 a, .int .i64 b, .int .i64 c, .int .i64 d, .int .i64 e, .int .i64 W, .int .i64 H, x, r, y] 38)).alloc (.cells #[.slice none 0 0, .slice none 0 0, .int .i64 0, .int .i64 0, .int .i64 0, .int .i64 0, .int .i64 0, .int .i64 0, .int .i64 0, .slice none 0 0, .slice none 0 0, .slice none 0 0] 38)).cell? ⟨w.heap.size, 1, none⟩ = some (.slice (some ⟨gk, ok, none⟩) nk ck) ∧ ((w.alloc (.cells #[.slice (some ⟨gt, ot, none⟩) nt ct, .slice (some ⟨gk, ok, none⟩) nk ck, .int .i64 a, .int .i64 b, .int .i64 c, .int .i64 d, .int .i64 e, .int .i64 W, .int .i64 H, x, r, y] 38)).alloc (.cells #[.slice none 0 0, .slice none 0 0, .int .i64 0, .int .i64 0, .int .i64 0, .int .i64 0, .int .i64 0, .int .i64 0, .int .i64 0, .slice none 0 0, .slice none 0 0, .slice none 0 0] 38)).cell? ⟨w.heap.size, 2, none⟩ = some (.int .i64 a) ∧ ((w.alloc (.cells #[.slice (some ⟨gt, ot, none⟩) nt ct, .slice (some ⟨gk, ok, none⟩) nk ck, .int .i64 a, .int .i64 b, .int .i64 c, .int .i64 d, .int .i64 e, .int .i64 W, .int .i64 H, x, r, y] 38)).alloc (.cells #[.slice none 0 0, .slice none 0 0, .int .i64 0, .int .i64 0, .int .i64 0, .int .i64 0, .int .i64 0, .int .i64 0, .int .i64 0, .slice none 0 0, .slice none 0 0, .slice none 0 0] 38)).cell? ⟨w.heap.size, 3, none⟩ = some (.int .i64 b) ∧ ((w.alloc (.cells #[.slice (some ⟨gt, ot, none⟩) nt ct, .slice (some ⟨gk, ok, none⟩) nk ck, .int .i64 a, .int .i64 b, .int .i64 c, .int .i64 d, .int .i64 e, .int .i64 W, .int .i64 H, x, r, y] 38)).alloc (.cells #[.slice none 0 0, .slice none 0 0, .int .i64 0, .int .i64 0, .int .i64 0, .int .i64 0, .int .i64 0, .int .i64 0, .int .i64 0, .slice none 0 0, .slice none 0 0, .slice none 0 0] 38)).cell? ⟨w.heap.size, 4, none⟩ = some (.int .i64 c) ∧ ((w.alloc (.cells #[.slice (some ⟨gt, ot, none⟩) nt ct, .slice (some ⟨gk, ok, none⟩) nk ck, .int .i64 a, .int .i64 b, .int .i64 c, .int .i64 d, .int .i64 e, .int .i64 W, .int .i64 H, x, r, y] 38)).alloc (.cells #[.slice none 0 0, .slice none 0 0, .int .i64 0, .int .i64 0, .int .i64 0, .int .i64 0, .int .i64 0, .int .i64 0, .int .i64 0, .slice none 0 0, .slice none 0 0, .slice none 0 0] 38)).cell? ⟨w.heap.size, 5, none⟩ = some (.int .i64 d) ∧ ((w.alloc (.cells #[.slice (some ⟨gt, ot, none⟩) nt ct, .slice (some ⟨gk, ok, none⟩) nk ck, .int .i64 a, .int .i64 b, .int .i64 c, .int .i64 d, .int .i64 e, .int .i64 W, .int .i64 H, x, r, y] 38)).alloc (.cells #[.slice none 0 0, .slice none 0 0, .int .i64 0, .int .i64 0, .int .i64 0, .int .i64 0, .int .i64 0, .int .i64 0, .int .i64 0, .slice none 0 0, .slice none 0 0, .slice none 0 0] 38)).cell? ⟨w.heap.size, 6, none⟩ = some (.int .i64 e) ∧ ((w.alloc (.cells #[.slice (some ⟨gt, ot, none⟩) nt ct, .slice (some ⟨gk, ok, none⟩) nk ck, .int .i64 a, .int .i64 b, .int .i64 c, .int .i64 d, .int .i64 e, .int .i64 W, .int .i64 H, x, r, y] 38)).alloc (.cells #[.slice none 0 0, .slice none 0 0, .int .i64 0, .int .i64 0, .int .i64 0, .int .i64 0, .int .i64 0, .int .i64 0, .int .i64 0, .slice none 0 0, .slice none 0 0, .slice none 0 0] 38)).cell? ⟨w.heap.size, 7, none⟩ = some (.int .i64 W) ∧ ((w.alloc (.cells #[.slice (some ⟨gt, ot, none⟩) nt ct, .slice (some ⟨gk, ok, none⟩) nk ck, .int .i64 a, .int .i64 b, .int .i64 c, .int .i64 d, .int .i64 e, .int .i64 W, .int .i64 H, x, r, y] 38)).alloc (.cells #[.slice none 0 0, .slice none 0 0, .int .i64 0, .int .i64 0, .int .i64 0, .int .i64 0, .int .i64 0, .int .i64 0, .int .i64 0, .slice none 0 0, .slice none 0 0, .slice none 0 0] 38)).cell? ⟨w.heap.size, 8, none⟩ = some (.int .i64 H) ∧ ((w.alloc (.cells #[.slice (some ⟨gt, ot, none⟩) nt ct, .slice (some ⟨gk, ok, none⟩) nk ck, .int .i64 a, .int .i64 b, .int .i64 c, .int .i64 d, .int .i64 e, .int .i64 W, .int .i64 H, x, r, y] 38)).alloc (.cells #[.slice none 0 0, .slice none 0 0, .int .i64 0, .int .i64 0, .int .i64 0, .int .i64 0, .int .i64 0, .int .i64 0, .int .i64 0, .slice none 0 0, .slice none 0 0, .slice none 0 0] 38)).cell? ⟨w.heap.size, 9, none⟩ = some (x) ∧ ((w.alloc (.cells #[.slice (some ⟨gt, ot, none⟩) nt ct, .slice (some ⟨gk, ok, none⟩) nk ck, .int .i64 a, .int .i64 b, .int .i64 c, .int .i64 d, .int .i64 e, .int .i64 W, .int .i64 H, x, r, y] 38)).alloc (.cells #[.slice none 0 0, .slice none 0 0, .int .i64 0, .int .i64 0, .int .i64 0, .int .i64 0, .int .i64 0, .int .i64 0, .int .i64 0, .slice none 0 0, .slice none 0 0, .slice none 0 0] 38)).cell? ⟨w.heap.size, 10, none⟩ = some (r) ∧ ((w.alloc (.cells #[.slice (some ⟨gt, ot, none⟩) nt ct, .slice (some ⟨gk, ok, none⟩) nk ck, .int .i64 a, .int .i64 b, .int .i64 c, .int .i64 d, .int .i64 e, .int .i64 W, .int .i64 H, x, r, y] 38)).alloc (.cells #[.slice none 0 0, .slice none 0 0, .int .i64 0, .int .i64 0, .int .i64 0, .int .i64 0, .int .i64 0, .int .i64 0, .int .i64 0, .slice none 0 0, .slice none 0 0, .slice none 0 0] 38)).cell? ⟨w.heap.size, 11, none⟩ = some (y) ∧ Kp w ((w.alloc (.cells #[.slice (some ⟨gt, ot, none⟩) nt ct, .slice (some ⟨gk, ok, none⟩) nk ck, .int .i64 a, .int .i64 b, .int .i64 c, .int .i64 d, .int .i64 e, .int .i64 W, .int .i64 H, x, r, y] 38)).alloc (.cells #[.slice none 0 0, .slice none 0 0, .int .i64 0, .int .i64 0, .int .i64 0, .int .i64 0, .int .i64 0, .int .i64 0, .int .i64 0, .slice none 0 0, .slice none 0 0, .slice none 0 0] 38)) := ⟨by simp [go_sem], by simp [go_sem], by simp [go_sem], by simp [go_sem], by simp [go_sem], by simp [go_sem], by simp [go_sem], by simp [go_sem], by simp [go_sem], by simp [go_sem], by simp [go_sem], by simp [go_sem], k0⟩
  have L0 : Live12 ((w.alloc (.cells #[.slice (some ⟨gt, ot, none⟩) nt ct, .slice (some ⟨gk, ok, none⟩) nk ck, .int .i64 a, .int .i64 b, .int .i64 c, .int .i64 d, .int .i64 e, .int .i64 W, .int .i64 H, x, r, y] 38)).alloc (.cells #[.slice none 0 0, .slice none 0 0, .int .i64 0, .int .i64 0, .int .i64 0, .int .i64 0, .int .i64 0, .int .i64 0, .int .i64 0, .slice none 0 0, .slice none 0 0, .slice none 0 0] 38)) (w.heap.size + 1) (.slice none 0 0) (.slice none 0 0) (.int .i64 0) (.int .i64 0) (.int .i64 0) (.int .i64 0) (.int .i64 0) (.int .i64 0) (.int .i64 0) (.slice none 0 0) (.slice none 0 0) (.slice none 0 0) := ⟨by simp [go_sem], by simp [go_sem], by simp [go_sem], by simp [go_sem], by simp [go_sem], by simp [go_sem], by simp [go_sem], by simp [go_sem], by simp [go_sem], by simp [go_sem], by simp [go_sem], by simp [go_sem]⟩
  have hz0 : ((w.alloc (.cells #[.slice (some ⟨gt, ot, none⟩) nt ct, .slice (some ⟨gk, ok, none⟩) nk ck, .int .i64 a, .int .i64 b, .int .i64 c, .int .i64 d, .int .i64 e, .int .i64 W, .int .i64 H, x, r, y] 38)).alloc (.cells #[.slice none 0 0, .slice none 0 0, .int .i64 0, .int .i64 0, .int .i64 0, .int .i64 0, .int .i64 0, .int .i64 0, .int .i64 0, .slice none 0 0, .slice none 0 0, .slice none 0 0] 38)).heap.size = w.heap.size + 2 := by simp
  have HZ0 := Lib.hid hz0
  have hnt := rulOk_nt (brdOk_rul hok)
  have hlt := hB.R.rt.1
  have hlk := hB.R.rk.1
  have hcost : ∀ x ∈ l, 0 < x.cost.length := fun z hz => by
    have h1 := brdOk_rul hok
    simp only [rulOk, Bool.and_eq_true, List.all_eq_true] at h1
    have h2 := h1.2.1 z hz
    simp only [numT, Bool.and_eq_true, decide_eq_true_iff] at h2
    omega
  have HB := Lib.hid hB
  have HT := Lib.hid ht
  have CG : Hid (Calls Tryz.prog 18 #[bv (.slice (some ⟨gt, ot, none⟩) nt ct) (.slice (some ⟨gk, ok, none⟩) nk ck) a b c d e W H x r y] ((w.alloc (.cells #[.slice (some ⟨gt, ot, none⟩) nt ct, .slice (some ⟨gk, ok, none⟩) nk ck, .int .i64 a, .int .i64 b, .int .i64 c, .int .i64 d, .int .i64 e, .int .i64 W, .int .i64 H, x, r, y] 38)).alloc (.cells #[.slice none 0 0, .slice none 0 0, .int .i64 0, .int .i64 0, .int .i64 0, .int .i64 0, .int .i64 0, .int .i64 0, .int .i64 0, .slice none 0 0, .slice none 0 0, .slice none 0 0] 38)) fun e' w' => e' = .returned (.bool true) ∧ Kp ((w.alloc (.cells #[.slice (some ⟨gt, ot, none⟩) nt ct, .slice (some ⟨gk, ok, none⟩) nk ck, .int .i64 a, .int .i64 b, .int .i64 c, .int .i64 d, .int .i64 e, .int .i64 W, .int .i64 H, x, r, y] 38)).alloc (.cells #[.slice none 0 0, .slice none 0 0, .int .i64 0, .int .i64 0, .int .i64 0, .int .i64 0, .int .i64 0, .int .i64 0, .int .i64 0, .slice none 0 0, .slice none 0 0, .slice none 0 0] 38)) w') := Lib.hid (by
    have := isBoard_any (some ⟨gt, ot, none⟩) (some ⟨gk, ok, none⟩) nt nk ct ck l m a b c d e W H x r y lt lr ld _ (hs.keep k0) (ht.keep k0) (hB.keep k0)
    rw [hok] at this
    exact this)
  have CR := Lib.hid (fun (w : World) (hB : BrdAt w (some ⟨gt, ot, none⟩) (some ⟨gk, ok, none⟩) nt nk l m x r y lt lr ld) => copyRules_any gt ot ct gk ok ck nt nk l m a b c d e w hB.R (by omega) (by omega) hcost (by omega))
  have CM := Lib.hid (fun (w : World) (ht : Tab w) (hB : BrdAt w (some ⟨gt, ot, none⟩) (some ⟨gk, ok, none⟩) nt nk l m x r y lt lr ld) => (show Calls Tryz.prog 19 #[mp W H x r y] w (MapPost true H W LT LR LD w) by rw [hLT, hLR, hLD]; exact mirrorMap_yes W H x r y lt lr ld w ht hB.L (brdOk_map hok)))
  have HF : Hid (∀ (w' : World) (t' r' y' : Value) (base : Nat), Own3 w' base t' r' y' LT LR LD → Lists w' t' r' y' LT LR LD) := Lib.hid fun w' t' r' y' base o => by
    rw [hLT, hLR, hLD] at o ⊢
    exact mir_lists hB.L (brdOk_map hok) o
  clear hB hs ht hok hnt hlt hlk hcost hz0 hLT hLR hLD
  go_enter Tryz.func7, Tryz.ntmps7
  go_wp2_with fail
  refine CG.out.mono ?_
  rintro e1 w1 ⟨rfl, k1⟩
  have s1 : w1.cell? ⟨w.heap.size, 0, none⟩ = some (.slice (some ⟨gt, ot, none⟩) nt ct) ∧ w1.cell? ⟨w.heap.size, 1, none⟩ = some (.slice (some ⟨gk, ok, none⟩) nk ck) ∧ w1.cell? ⟨w.heap.size, 2, none⟩ = some (.int .i64 a) ∧ w1.cell? ⟨w.heap.size, 3, none⟩ = some (.int .i64 b) ∧ w1.cell? ⟨w.heap.size, 4, none⟩ = some (.int .i64 c) ∧ w1.cell? ⟨w.heap.size, 5, none⟩ = some (.int .i64 d) ∧ w1.cell? ⟨w.heap.size, 6, none⟩ = some (.int .i64 e) ∧ w1.cell? ⟨w.heap.size, 7, none⟩ = some (.int .i64 W) ∧ w1.cell? ⟨w.heap.size, 8, none⟩ = some (.int .i64 H) ∧ w1.cell? ⟨w.heap.size, 9, none⟩ = some (x) ∧ w1.cell? ⟨w.heap.size, 10, none⟩ = some (r) ∧ w1.cell? ⟨w.heap.size, 11, none⟩ = some (y) ∧ Kp w w1 := ⟨k1.cell s0.1, k1.cell s0.2.1, k1.cell s0.2.2.1, k1.cell s0.2.2.2.1, k1.cell s0.2.2.2.2.1, k1.cell s0.2.2.2.2.2.1, k1.cell s0.2.2.2.2.2.2.1, k1.cell s0.2.2.2.2.2.2.2.1, k1.cell s0.2.2.2.2.2.2.2.2.1, k1.cell s0.2.2.2.2.2.2.2.2.2.1, k1.cell s0.2.2.2.2.2.2.2.2.2.2.1, k1.cell s0.2.2.2.2.2.2.2.2.2.2.2.1, s0.2.2.2.2.2.2.2.2.2.2.2.2.trans k1⟩
  have L1 := live12_keep k1 L0
  have hz1 : w.heap.size + 2 ≤ w1.heap.size := by rw [← HZ0.out]; exact k1.size
  clear s0 L0 k1 k0 HZ0 CG
  go_wp2_with fail
  refine (CM.out _ (HT.out.keep s1.2.2.2.2.2.2.2.2.2.2.2.2) (HB.out.keep s1.2.2.2.2.2.2.2.2.2.2.2.2)).mono ?_
  rintro e2 w2 ⟨t', r', y', rfl, o2, k2⟩
  obtain ⟨A3, c3, rfl⟩ := o2.ot.slice
  obtain ⟨A4, c4, rfl⟩ := o2.or.slice
  obtain ⟨A5, c5, rfl⟩ := o2.od.slice
  have s2 : w2.cell? ⟨w.heap.size, 0, none⟩ = some (.slice (some ⟨gt, ot, none⟩) nt ct) ∧ w2.cell? ⟨w.heap.size, 1, none⟩ = some (.slice (some ⟨gk, ok, none⟩) nk ck) ∧ w2.cell? ⟨w.heap.size, 2, none⟩ = some (.int .i64 a) ∧ w2.cell? ⟨w.heap.size, 3, none⟩ = some (.int .i64 b) ∧ w2.cell? ⟨w.heap.size, 4, none⟩ = some (.int .i64 c) ∧ w2.cell? ⟨w.heap.size, 5, none⟩ = some (.int .i64 d) ∧ w2.cell? ⟨w.heap.size, 6, none⟩ = some (.int .i64 e) ∧ w2.cell? ⟨w.heap.size, 7, none⟩ = some (.int .i64 W) ∧ w2.cell? ⟨w.heap.size, 8, none⟩ = some (.int .i64 H) ∧ w2.cell? ⟨w.heap.size, 9, none⟩ = some (x) ∧ w2.cell? ⟨w.heap.size, 10, none⟩ = some (r) ∧ w2.cell? ⟨w.heap.size, 11, none⟩ = some (y) ∧ Kp w w2 := ⟨k2.cell s1.1, k2.cell s1.2.1, k2.cell s1.2.2.1, k2.cell s1.2.2.2.1, k2.cell s1.2.2.2.2.1, k2.cell s1.2.2.2.2.2.1, k2.cell s1.2.2.2.2.2.2.1, k2.cell s1.2.2.2.2.2.2.2.1, k2.cell s1.2.2.2.2.2.2.2.2.1, k2.cell s1.2.2.2.2.2.2.2.2.2.1, k2.cell s1.2.2.2.2.2.2.2.2.2.2.1, k2.cell s1.2.2.2.2.2.2.2.2.2.2.2.1, s1.2.2.2.2.2.2.2.2.2.2.2.2.trans k2⟩
  have L2 := live12_keep k2 L1
  have hz2 := k2.size
  have I1 := Lib.hid (fun g e => (World.ownsRow.lt o2.ot g e).2)
  have I2 := Lib.hid (fun g e => (World.ownsRow.lt o2.or g e).2)
  have I3 := Lib.hid (fun g e => (World.ownsRow.lt o2.od g e).2)
  obtain ⟨mb, hmb⟩ : ∃ mb, w2.heap.size = mb := ⟨_, rfl⟩
  have HMB := Lib.hid hmb
  have kA : Kp w2 (w2.alloc (.cells #[.int .i64 H, .int .i64 W, .slice A3 LT.length c3, .slice A4 LR.length c4, .slice A5 LD.length c5] 36)).drew := ((Kp.refl w2).alloc _).drew
  have s3 : (w2.alloc (.cells #[.int .i64 H, .int .i64 W, .slice A3 LT.length c3, .slice A4 LR.length c4, .slice A5 LD.length c5] 36)).drew.cell? ⟨w.heap.size, 0, none⟩ = some (.slice (some ⟨gt, ot, none⟩) nt ct) ∧ (w2.alloc (.cells #[.int .i64 H, .int .i64 W, .slice A3 LT.length c3, .slice A4 LR.length c4, .slice A5 LD.length c5] 36)).drew.cell? ⟨w.heap.size, 1, none⟩ = some (.slice (some ⟨gk, ok, none⟩) nk ck) ∧ (w2.alloc (.cells #[.int .i64 H, .int .i64 W, .slice A3 LT.length c3, .slice A4 LR.length c4, .slice A5 LD.length c5] 36)).drew.cell? ⟨w.heap.size, 2, none⟩ = some (.int .i64 a) ∧ (w2.alloc (.cells #[.int .i64 H, .int .i64 W, .slice A3 LT.length c3, .slice A4 LR.length c4, .slice A5 LD.length c5] 36)).drew.cell? ⟨w.heap.size, 3, none⟩ = some (.int .i64 b) ∧ (w2.alloc (.cells #[.int .i64 H, .int .i64 W, .slice A3 LT.length c3, .slice A4 LR.length c4, .slice A5 LD.length c5] 36)).drew.cell? ⟨w.heap.size, 4, none⟩ = some (.int .i64 c) ∧ (w2.alloc (.cells #[.int .i64 H, .int .i64 W, .slice A3 LT.length c3, .slice A4 LR.length c4, .slice A5 LD.length c5] 36)).drew.cell? ⟨w.heap.size, 5, none⟩ = some (.int .i64 d) ∧ (w2.alloc (.cells #[.int .i64 H, .int .i64 W, .slice A3 LT.length c3, .slice A4 LR.length c4, .slice A5 LD.length c5] 36)).drew.cell? ⟨w.heap.size, 6, none⟩ = some (.int .i64 e) ∧ (w2.alloc (.cells #[.int .i64 H, .int .i64 W, .slice A3 LT.length c3, .slice A4 LR.length c4, .slice A5 LD.length c5] 36)).drew.cell? ⟨w.heap.size, 7, none⟩ = some (.int .i64 W) ∧ (w2.alloc (.cells #[.int .i64 H, .int .i64 W, .slice A3 LT.length c3, .slice A4 LR.length c4, .slice A5 LD.length c5] 36)).drew.cell? ⟨w.heap.size, 8, none⟩ = some (.int .i64 H) ∧ (w2.alloc (.cells #[.int .i64 H, .int .i64 W, .slice A3 LT.length c3, .slice A4 LR.length c4, .slice A5 LD.length c5] 36)).drew.cell? ⟨w.heap.size, 9, none⟩ = some (x) ∧ (w2.alloc (.cells #[.int .i64 H, .int .i64 W, .slice A3 LT.length c3, .slice A4 LR.length c4, .slice A5 LD.length c5] 36)).drew.cell? ⟨w.heap.size, 10, none⟩ = some (r) ∧ (w2.alloc (.cells #[.int .i64 H, .int .i64 W, .slice A3 LT.length c3, .slice A4 LR.length c4, .slice A5 LD.length c5] 36)).drew.cell? ⟨w.heap.size, 11, none⟩ = some (y) ∧ (w2.alloc (.cells #[.int .i64 H, .int .i64 W, .slice A3 LT.length c3, .slice A4 LR.length c4, .slice A5 LD.length c5] 36)).drew.cell? ⟨mb, 0, none⟩ = some (.int .i64 H) ∧ (w2.alloc (.cells #[.int .i64 H, .int .i64 W, .slice A3 LT.length c3, .slice A4 LR.length c4, .slice A5 LD.length c5] 36)).drew.cell? ⟨mb, 1, none⟩ = some (.int .i64 W) ∧ (w2.alloc (.cells #[.int .i64 H, .int .i64 W, .slice A3 LT.length c3, .slice A4 LR.length c4, .slice A5 LD.length c5] 36)).drew.cell? ⟨mb, 2, none⟩ = some (.slice A3 LT.length c3) ∧ (w2.alloc (.cells #[.int .i64 H, .int .i64 W, .slice A3 LT.length c3, .slice A4 LR.length c4, .slice A5 LD.length c5] 36)).drew.cell? ⟨mb, 3, none⟩ = some (.slice A4 LR.length c4) ∧ (w2.alloc (.cells #[.int .i64 H, .int .i64 W, .slice A3 LT.length c3, .slice A4 LR.length c4, .slice A5 LD.length c5] 36)).drew.cell? ⟨mb, 4, none⟩ = some (.slice A5 LD.length c5) ∧ Kp w (w2.alloc (.cells #[.int .i64 H, .int .i64 W, .slice A3 LT.length c3, .slice A4 LR.length c4, .slice A5 LD.length c5] 36)).drew := ⟨kA.cell s2.1, kA.cell s2.2.1, kA.cell s2.2.2.1, kA.cell s2.2.2.2.1, kA.cell s2.2.2.2.2.1, kA.cell s2.2.2.2.2.2.1, kA.cell s2.2.2.2.2.2.2.1, kA.cell s2.2.2.2.2.2.2.2.1, kA.cell s2.2.2.2.2.2.2.2.2.1, kA.cell s2.2.2.2.2.2.2.2.2.2.1, kA.cell s2.2.2.2.2.2.2.2.2.2.2.1, kA.cell s2.2.2.2.2.2.2.2.2.2.2.2.1, by rw [← HMB.out]; simp [go_sem], by rw [← HMB.out]; simp [go_sem], by rw [← HMB.out]; simp [go_sem], by rw [← HMB.out]; simp [go_sem], by rw [← HMB.out]; simp [go_sem], s2.2.2.2.2.2.2.2.2.2.2.2.2.trans kA⟩
  have L3 : Live12 (w2.alloc (.cells #[.int .i64 H, .int .i64 W, .slice A3 LT.length c3, .slice A4 LR.length c4, .slice A5 LD.length c5] 36)).drew (w.heap.size + 1) (.slice none 0 0) (.slice none 0 0) (.int .i64 0) (.int .i64 0) (.int .i64 0) (.int .i64 0) (.int .i64 0) (.int .i64 0) (.int .i64 0) (.slice none 0 0) (.slice none 0 0) (.slice none 0 0) := live12_keep kA L2
  have M3 := Lib.hid (o2.keep kA)
  have hz3 : mb + 1 ≤ (w2.alloc (.cells #[.int .i64 H, .int .i64 W, .slice A3 LT.length c3, .slice A4 LR.length c4, .slice A5 LD.length c5] 36)).drew.heap.size := by rw [← HMB.out]; simp
  have hmb2 : w1.heap.size ≤ mb := by omega
  clear s1 L1 k2 o2 s2 L2 kA hmb
  go_upto_region 4 with (fail)
  rw [HMB.out]
  refine wp_region_held_drew (S := (fun w' => w'.cell? ⟨w.heap.size, 0, none⟩ = some (.slice (some ⟨gt, ot, none⟩) nt ct) ∧ w'.cell? ⟨w.heap.size, 1, none⟩ = some (.slice (some ⟨gk, ok, none⟩) nk ck) ∧ w'.cell? ⟨w.heap.size, 2, none⟩ = some (.int .i64 a) ∧ w'.cell? ⟨w.heap.size, 3, none⟩ = some (.int .i64 b) ∧ w'.cell? ⟨w.heap.size, 4, none⟩ = some (.int .i64 c) ∧ w'.cell? ⟨w.heap.size, 5, none⟩ = some (.int .i64 d) ∧ w'.cell? ⟨w.heap.size, 6, none⟩ = some (.int .i64 e) ∧ w'.cell? ⟨w.heap.size, 7, none⟩ = some (.int .i64 W) ∧ w'.cell? ⟨w.heap.size, 8, none⟩ = some (.int .i64 H) ∧ w'.cell? ⟨w.heap.size, 9, none⟩ = some (x) ∧ w'.cell? ⟨w.heap.size, 10, none⟩ = some (r) ∧ w'.cell? ⟨w.heap.size, 11, none⟩ = some (y) ∧ w'.cell? ⟨mb, 0, none⟩ = some (.int .i64 H) ∧ w'.cell? ⟨mb, 1, none⟩ = some (.int .i64 W) ∧ w'.cell? ⟨mb, 2, none⟩ = some (.slice A3 LT.length c3) ∧ w'.cell? ⟨mb, 3, none⟩ = some (.slice A4 LR.length c4) ∧ w'.cell? ⟨mb, 4, none⟩ = some (.slice A5 LD.length c5) ∧ Kp w w')) (by kernel_rfl) ?_ (fun hHeld => ?_)
  · assumption
  generalize (w2.alloc (.cells #[.int .i64 H, .int .i64 W, .slice A3 LT.length c3, .slice A4 LR.length c4, .slice A5 LD.length c5] 36)).drew = V at *
  refine wpAnyH_take (i := 0) (oi := ⟨some 16, _, _, _, _, _⟩) (v := ?_) rfl (by kernel_rfl) (by kernel_rfl) (by kernel_rfl) (fun _ _ _ h => h) (Or.inl ⟨by rfl, ?_⟩) (by assumption) ?_
  rotate_left
  · intro w hSw; (try dsimp only at hSw); go_simp; (all_goals with_reducible rfl)
  try simp only [Act.put, List.setIfInBounds_toArray, List.set_cons_zero, List.set_cons_succ]
  refine wpAnyH_take (i := 1) (oi := ⟨some 17, _, _, _, _, _⟩) (v := ?_) rfl (by kernel_rfl) (by kernel_rfl) (by kernel_rfl) (fun _ _ _ h => h) (Or.inl ⟨by rfl, ?_⟩) (by assumption) ?_
  rotate_left
  · intro w hSw; (try dsimp only at hSw); go_simp; (all_goals with_reducible rfl)
  try simp only [Act.put, List.setIfInBounds_toArray, List.set_cons_zero, List.set_cons_succ]
  refine wpAnyH_take (i := 3) (oi := ⟨some 19, _, _, _, _, _⟩) (v := ?_) rfl (by kernel_rfl) (by kernel_rfl) (by kernel_rfl) (fun _ _ _ h => h) (Or.inl ⟨by rfl, ?_⟩) (by assumption) ?_
  rotate_left
  · intro w hSw; (try dsimp only at hSw); go_simp; (all_goals with_reducible rfl)
  try simp only [Act.put, List.setIfInBounds_toArray, List.set_cons_zero, List.set_cons_succ]
  refine wpAnyH_ready (rs := [2]) (by kernel_rfl) (by simp) ?_
  refine (AllReadyH.cons (o := ⟨some 18, _, _, _, _, _⟩) rfl (fun K hK => ?_) AllReadyH.nil)
  go_simp
  refine (CR.out _ (HB.out.keep hHeld.2.2.2.2.2.2.2.2.2.2.2.2.2.2.2.2.2)).mono ?_
  rintro e4 w4 ⟨mid, g1, g2, c1, c2, cs, ys, zs, rfl, t4, z4, hm1, hm2, k4⟩
  have hS4 : w4.cell? ⟨w.heap.size, 0, none⟩ = some (.slice (some ⟨gt, ot, none⟩) nt ct) ∧ w4.cell? ⟨w.heap.size, 1, none⟩ = some (.slice (some ⟨gk, ok, none⟩) nk ck) ∧ w4.cell? ⟨w.heap.size, 2, none⟩ = some (.int .i64 a) ∧ w4.cell? ⟨w.heap.size, 3, none⟩ = some (.int .i64 b) ∧ w4.cell? ⟨w.heap.size, 4, none⟩ = some (.int .i64 c) ∧ w4.cell? ⟨w.heap.size, 5, none⟩ = some (.int .i64 d) ∧ w4.cell? ⟨w.heap.size, 6, none⟩ = some (.int .i64 e) ∧ w4.cell? ⟨w.heap.size, 7, none⟩ = some (.int .i64 W) ∧ w4.cell? ⟨w.heap.size, 8, none⟩ = some (.int .i64 H) ∧ w4.cell? ⟨w.heap.size, 9, none⟩ = some (x) ∧ w4.cell? ⟨w.heap.size, 10, none⟩ = some (r) ∧ w4.cell? ⟨w.heap.size, 11, none⟩ = some (y) ∧ w4.cell? ⟨mb, 0, none⟩ = some (.int .i64 H) ∧ w4.cell? ⟨mb, 1, none⟩ = some (.int .i64 W) ∧ w4.cell? ⟨mb, 2, none⟩ = some (.slice A3 LT.length c3) ∧ w4.cell? ⟨mb, 3, none⟩ = some (.slice A4 LR.length c4) ∧ w4.cell? ⟨mb, 4, none⟩ = some (.slice A5 LD.length c5) ∧ Kp w w4 := ⟨k4.cell hHeld.1, k4.cell hHeld.2.1, k4.cell hHeld.2.2.1, k4.cell hHeld.2.2.2.1, k4.cell hHeld.2.2.2.2.1, k4.cell hHeld.2.2.2.2.2.1, k4.cell hHeld.2.2.2.2.2.2.1, k4.cell hHeld.2.2.2.2.2.2.2.1, k4.cell hHeld.2.2.2.2.2.2.2.2.1, k4.cell hHeld.2.2.2.2.2.2.2.2.2.1, k4.cell hHeld.2.2.2.2.2.2.2.2.2.2.1, k4.cell hHeld.2.2.2.2.2.2.2.2.2.2.2.1, k4.cell hHeld.2.2.2.2.2.2.2.2.2.2.2.2.1, k4.cell hHeld.2.2.2.2.2.2.2.2.2.2.2.2.2.1, k4.cell hHeld.2.2.2.2.2.2.2.2.2.2.2.2.2.2.1, k4.cell hHeld.2.2.2.2.2.2.2.2.2.2.2.2.2.2.2.1, k4.cell hHeld.2.2.2.2.2.2.2.2.2.2.2.2.2.2.2.2.1, hHeld.2.2.2.2.2.2.2.2.2.2.2.2.2.2.2.2.2.trans k4⟩
  have L4 := live12_keep k4 L3
  have T4 := Lib.hid t4
  have Z4 := Lib.hid z4
  have M4 := Lib.hid (M3.out.keep k4)
  have hz4 := k4.size
  clear t4 z4 L3 M3
  go_wp2_with fail
  refine hK.out _ _ ?_ (fun hHeld => ?_)
  · (try dsimp only); (first | assumption)
  clear hK K
  try simp only [Act.put, List.setIfInBounds_toArray, List.set_cons_zero, List.set_cons_succ]
  refine wpAnyH_take (i := 4) (oi := ⟨some 20, _, _, _, _, _⟩) (v := ?_) rfl (by kernel_rfl) (by kernel_rfl) (by kernel_rfl) (fun _ _ _ h => h) (Or.inl ⟨by rfl, ?_⟩) (by assumption) ?_
  rotate_left
  · intro w hSw; (try dsimp only at hSw); go_simp; (all_goals with_reducible rfl)
  try simp only [Act.put, List.setIfInBounds_toArray, List.set_cons_zero, List.set_cons_succ]
  refine wpAnyH_ready (rs := [5]) (by kernel_rfl) (by simp) ?_
  refine (AllReadyH.cons (o := ⟨none, _, _, _, _, _⟩) rfl (fun K hK => ?_) AllReadyH.nil)
  go_simp
  go_wp2_with fail
  refine hK.out _ _ ?_ (fun hHeld => ?_)
  · exact (brd_off17 (brd_off17 (brd_off17 (brd_off17 (brd_off17 (brd_off17 (brd_off17 (brd_off17 (brd_off17 (brd_off17 (brd_off17 (brd_off17 hHeld (by omega) (by omega) (by omega)) (by omega) (by omega) (by omega)) (by omega) (by omega) (by omega)) (by omega) (by omega) (by omega)) (by omega) (by omega) (by omega)) (by omega) (by omega) (by omega)) (by omega) (by omega) (by omega)) (by omega) (by omega) (by omega)) (by omega) (by omega) (by omega)) (by omega) (by omega) (by omega)) (by omega) (by omega) (by omega)) (by omega) (by omega) (by omega))
  clear hK K
  try simp only [Act.put, List.setIfInBounds_toArray, List.set_cons_zero, List.set_cons_succ]
  refine wpAnyH_take (i := 6) (oi := ⟨some 3, _, _, _, _, _⟩) (v := ?_) rfl (by kernel_rfl) (by kernel_rfl) (by kernel_rfl) (fun _ _ _ h => h) (Or.inl ⟨by rfl, ?_⟩) (by assumption) ?_
  rotate_left
  · intro w hSw; (try dsimp only at hSw); go_simp; (all_goals with_reducible rfl)
  try simp only [Act.put, List.setIfInBounds_toArray, List.set_cons_zero, List.set_cons_succ]
  refine wpAnyH_done (by kernel_rfl) ?_ _
  go_wp2_with fail
  refine bodyPost_ret (v := .tuple #[bv (.slice (some ⟨g1, 0, none⟩) nt c1) (.slice (some ⟨g2, 0, none⟩) nk c2) a b c d e H W (.slice A3 LT.length c3) (.slice A4 LR.length c4) (.slice A5 LD.length c5), .bool true]) (by simp [results, Tryz.results7, go_sem, *]) rfl ⟨w1.heap.size, V.heap.size, mid, w4.heap.size, g1, g2, c1, c2, cs, ys, zs, A3, c3, A4, c4, A5, c5, rfl, ⟨?_, ?_, ?_, fun g e => by have := I1.out g e; have := HMB.out; omega, fun g e => by have := I2.out g e; have := HMB.out; omega, fun g e => by have := I3.out g e; have := HMB.out; omega, by omega, hm1, hm2, by simp⟩, by omega, ?_, hHeld.2.2.2.2.2.2.2.2.2.2.2.2.2.2.2.2.2⟩
  · exact ((((((((((((T4.out.far (by omega) _).far (by omega) _).far (by omega) _).far (by omega) _).far (by omega) _).far (by omega) _).far (by omega) _).far (by omega) _).far (by omega) _).far (by omega) _).far (by omega) _).far (by omega) _)
  · exact ((((((((((((Z4.out.far (by omega) _).far (by omega) _).far (by omega) _).far (by omega) _).far (by omega) _).far (by omega) _).far (by omega) _).far (by omega) _).far (by omega) _).far (by omega) _).far (by omega) _).far (by omega) _)
  · exact ((((((((((((M4.out.off (by omega) _).off (by omega) _).off (by omega) _).off (by omega) _).off (by omega) _).off (by omega) _).off (by omega) _).off (by omega) _).off (by omega) _).off (by omega) _).off (by omega) _).off (by omega) _)
  · exact HF.out _ _ _ _ w1.heap.size ((((((((((((M4.out.off (by omega) _).off (by omega) _).off (by omega) _).off (by omega) _).off (by omega) _).off (by omega) _).off (by omega) _).off (by omega) _).off (by omega) _).off (by omega) _).off (by omega) _).off (by omega) _)
end Go.Proofs.YtmolpkjdjkhnpaaGreatDoor
