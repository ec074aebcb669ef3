/-
  Texts of this seat in one module: BrdJ, BrdK, SzP, RulL, TabV, Tab, RdS, MapW, RulO, BrdL.
-/
import Derived.Test.YtfohhofpfmbheaaGreatDoorCards
import Derived.Test.YtfohhofpfmbheaaGreatDoorTie
import Derived.Deep.DeepHandedRow
import Derived.Lib.LaidTab
import Derived.FnData
import Derived.Lib.SmallJoins
import Derived.Deep.Fields
import Derived.Deep.Slices
import Derived.Test.YtfohhofpfmbheaaGreatDoorQa
import Derived.Test.YtfohhofpfmbheaaGreatDoorQb
import Derived.Test.YtfohhofpfmbheaaGreatDoorQc
import Derived.Test.YtfohhofpfmbheaaGreatDoorQd

/-
  Boards: a kind and a place that are there, the cost to enter a hex, open hexes, unused terrains: the program's functions and the reference's. Nothing that was there is changed. The named variables hold what the program's text lays.
-/
namespace Go.Proofs.YtfohhofpfmbheaaGreatDoor
open Go.RowKit

theorem inB_at {n : Int} {h : Nat} (hh : inB n h = true) : ∃ k : Nat, n = k ∧ k < h := by
  simp only [inB, Bool.and_eq_true, decide_eq_true_iff] at hh
  exact ⟨n.toNat, by omega, by omega⟩
theorem onI_at {W H i : Int} {n : Nat} (hh : onI W H i = true) (hn : (n : Int) = W * H) : ∃ k : Nat, i = k ∧ k < n := by
  obtain ⟨h0, h1⟩ := onI_true hh
  exact ⟨i.toNat, by omega, by omega⟩
theorem brdOk_map {r : Rul} {W H : Int} {lt lr ld : List Int} (h : brdOk r W H lt lr ld = true) : mapOk W H lt lr ld = true := by
  simp only [brdOk, Bool.and_eq_true] at h
  exact h.1.2
theorem mapOk_len {W H : Int} {lt lr ld : List Int} (h : mapOk W H lt lr ld = true) : (lt.length : Int) = W * H := by
  simp only [mapOk, Bool.and_eq_true, decide_eq_true_iff] at h
  exact h.2.2.1

theorem isKind_any (A : Value) (Ak : Option Addr) (nk ck : Nat) (a b c d e k : Int) (w : World) :
    Calls Tryz.prog 94 #[rv A (.slice Ak nk ck) a b c d e, .int .i64 k] w fun e' w' => e' = .returned (.bool (inB k nk)) ∧ Kp w w' := by
  by_cases h1 : 0 ≤ k
  · by_cases h2 : k < nk
    · go_enter Tryz.func94, Tryz.ntmps94
      go_wp2_with fail
      go_ret
      exact ⟨ret_bool (by simp [inB, h1, h2]), (Kp.refl w).alloc _⟩
    · have d2 : decide (k < (nk : Int)) = false := by simpa using h2
      go_enter Tryz.func94, Tryz.ntmps94
      go_wp2_with fail
      go_ret
      exact ⟨ret_bool (by simp [inB]; omega), (Kp.refl w).alloc _⟩
  · have d1 : decide (0 ≤ k) = false := by simpa using h1
    go_enter Tryz.func94, Tryz.ntmps94
    go_wp2_with fail
    go_ret
    exact ⟨ret_bool (by simp [inB]; omega), (Kp.refl w).alloc _⟩

set_option maxRecDepth 100000 in
set_option maxHeartbeats 4000000 in
theorem isKindOn_any (At Ak : Option Addr) (nt nk ct ck : Nat) (l : List Ter) (m : List Knd) (a b c d e W H : Int) (x r y : Value) (lt lr ld : List Int) (k : Int) (w : World) (hs : Spans w) (ht : Tab w) (hB : BrdAt w At Ak nt nk l m x r y lt lr ld) :
    Calls Tryz.prog 60 #[bv (.slice At nt ct) (.slice Ak nk ck) a b c d e W H x r y, .int .i64 k] w fun e' w' => e' = .returned (.bool (brdOk ⟨l, m, a, b, c, d, e⟩ W H lt lr ld && inB k nk)) ∧ Kp w w' := by
  have KA : Kp w (w.alloc (.cells #[.slice At nt ct, .slice Ak nk ck, .int .i64 a, .int .i64 b, .int .i64 c, .int .i64 d, .int .i64 e, .int .i64 W, .int .i64 H, x, r, y] 41)) := (Kp.refl w).alloc _
  have s0 : (w.alloc (.cells #[.slice At nt ct, .slice Ak nk ck, .int .i64 a, .int .i64 b, .int .i64 c, .int .i64 d, .int .i64 e, .int .i64 W, .int .i64 H, x, r, y] 41)).cell? ⟨w.heap.size, 0, none⟩ = some (.slice At nt ct) ∧ (w.alloc (.cells #[.slice At nt ct, .slice Ak nk ck, .int .i64 a, .int .i64 b, .int .i64 c, .int .i64 d, .int .i64 e, .int .i64 W, .int .i64 H, x, r, y] 41)).cell? ⟨w.heap.size, 1, none⟩ = some (.slice Ak nk ck) ∧ (w.alloc (.cells #[.slice At nt ct, .slice Ak nk ck, .int .i64 a, .int .i64 b, .int .i64 c, .int .i64 d, .int .i64 e, .int .i64 W, .int .i64 H, x, r, y] 41)).cell? ⟨w.heap.size, 2, none⟩ = some (.int .i64 a) ∧ (w.alloc (.cells #[.slice At nt ct, .slice Ak nk ck, .int .i64 a, .int .i64 b, .int .i64 c, .int .i64 d, .int .i64 e, .int .i64 W, .int .i64 H, x, r, y] 41)).cell? ⟨w.heap.size, 3, none⟩ = some (.int .i64 b) ∧ (w.alloc (.cells #[.slice At nt ct, .slice Ak nk ck, .int .i64 a, .int .i64 b, .int .i64 c, .int .i64 d, .int .i64 e, .int .i64 W, .int .i64 H, x, r, y] 41)).cell? ⟨w.heap.size, 4, none⟩ = some (.int .i64 c) ∧ (w.alloc (.cells #[.slice At nt ct, .slice Ak nk ck, .int .i64 a, .int .i64 b, .int .i64 c, .int .i64 d, .int .i64 e, .int .i64 W, .int .i64 H, x, r, y] 41)).cell? ⟨w.heap.size, 5, none⟩ = some (.int .i64 d) ∧ (w.alloc (.cells #[.slice At nt ct, .slice Ak nk ck, .int .i64 a, .int .i64 b, .int .i64 c, .int .i64 d, .int .i64 e, .int .i64 W, .int .i64 H, x, r, y] 41)).cell? ⟨w.heap.size, 6, none⟩ = some (.int .i64 e) ∧ (w.alloc (.cells #[.slice At nt ct, .slice Ak nk ck, .int .i64 a, .int .i64 b, .int .i64 c, .int .i64 d, .int .i64 e, .int .i64 W, .int .i64 H, x, r, y] 41)).cell? ⟨w.heap.size, 7, none⟩ = some (.int .i64 W) ∧ (w.alloc (.cells #[.slice At nt ct, .slice Ak nk ck, .int .i64 a, .int .i64 b, .int .i64 c, .int .i64 d, .int .i64 e, .int .i64 W, .int .i64 H, x, r, y] 41)).cell? ⟨w.heap.size, 8, none⟩ = some (.int .i64 H) ∧ (w.alloc (.cells #[.slice At nt ct, .slice Ak nk ck, .int .i64 a, .int .i64 b, .int .i64 c, .int .i64 d, .int .i64 e, .int .i64 W, .int .i64 H, x, r, y] 41)).cell? ⟨w.heap.size, 9, none⟩ = some (x) ∧ (w.alloc (.cells #[.slice At nt ct, .slice Ak nk ck, .int .i64 a, .int .i64 b, .int .i64 c, .int .i64 d, .int .i64 e, .int .i64 W, .int .i64 H, x, r, y] 41)).cell? ⟨w.heap.size, 10, none⟩ = some (r) ∧ (w.alloc (.cells #[.slice At nt ct, .slice Ak nk ck, .int .i64 a, .int .i64 b, .int .i64 c, .int .i64 d, .int .i64 e, .int .i64 W, .int .i64 H, x, r, y] 41)).cell? ⟨w.heap.size, 11, none⟩ = some (y) := ⟨by simp [go_sem], by simp [go_sem], by simp [go_sem], by simp [go_sem], by simp [go_sem], by simp [go_sem], by simp [go_sem], by simp [go_sem], by simp [go_sem], by simp [go_sem], by simp [go_sem], by simp [go_sem]⟩
  have C1 := Lib.hid (isBoard_any At Ak nt nk ct ck l m a b c d e W H x r y lt lr ld _ (hs.keep KA) (ht.keep KA) (hB.keep KA))
  generalize brdOk ⟨l, m, a, b, c, d, e⟩ W H lt lr ld = B at C1 ⊢
  clear hs ht hB
  cases B
  · go_enter Tryz.func60, Tryz.ntmps60
    go_wp2_with fail
    refine C1.out.mono ?_
    rintro e1 w1 ⟨rfl, k1⟩
    go_wp2_with fail
    go_ret
    exact ⟨rfl, KA.trans k1⟩
  · go_enter Tryz.func60, Tryz.ntmps60
    go_wp2_with fail
    refine C1.out.mono ?_
    rintro e1 w1 ⟨rfl, k1⟩
    have s1 := keepb12 k1 s0
    have K1 := KA.trans k1
    clear s0 k1
    go_wp2_with fail
    refine (isKind_any _ _ _ _ _ _ _ _ _ _ _).mono ?_
    rintro e2 w2 ⟨rfl, k2⟩
    go_wp2_with fail
    go_ret
    exact ⟨ret_bool (by simp), K1.trans k2⟩

set_option maxRecDepth 100000 in
set_option maxHeartbeats 4000000 in
theorem isOpen_any (At Ak : Option Addr) (nt nk ct ck : Nat) (l : List Ter) (m : List Knd) (a b c d e W H : Int) (x r y : Value) (lt lr ld : List Int) (k i : Nat) (w : World) (hB : BrdAt w At Ak nt nk l m x r y lt lr ld) (hok : brdOk ⟨l, m, a, b, c, d, e⟩ W H lt lr ld = true) (hk : k < m.length) (hi : i < lt.length) :
    Calls Tryz.prog 98 #[bv (.slice At nt ct) (.slice Ak nk ck) a b c d e W H x r y, .int .i64 (k : Int), .int .i64 (i : Int)] w fun e' w' => e' = .returned (.bool (opnB l lt k i)) ∧ Kp w w' := by
  have KA : Kp w (w.alloc (.cells #[.slice At nt ct, .slice Ak nk ck, .int .i64 a, .int .i64 b, .int .i64 c, .int .i64 d, .int .i64 e, .int .i64 W, .int .i64 H, x, r, y] 41)) := (Kp.refl w).alloc _
  have C1 := Lib.hid (enterCost_any At Ak nt nk ct ck l m a b c d e W H x r y lt lr ld k i _ (hB.keep KA) hok hk hi)
  obtain ⟨_, _, z, _, _, _, _, _, h6, h7, _⟩ := brd_hex hok hk hi
  have e : opnB l lt k i = (costB l lt k i != 0) := by
    unfold opnB
    rw [h6, Bool.eq_iff_iff]
    simp
    omega
  rw [e]
  generalize costB l lt k i = X at C1 ⊢
  clear hB hok hk hi h6 h7 e
  go_enter Tryz.func98, Tryz.ntmps98
  go_wp2_with fail
  refine C1.out.mono ?_
  rintro e1 w1 ⟨rfl, k1⟩
  go_wp2_with fail
  go_ret
  exact ⟨rfl, KA.trans k1⟩

set_option maxRecDepth 100000 in
set_option maxHeartbeats 4000000 in
theorem openHexes_any (At Ak : Option Addr) (nt nk ct ck : Nat) (l : List Ter) (m : List Knd) (a b c d e W H : Int) (x r y : Value) (lt lr ld : List Int) (k : Nat) (w : World) (hB : BrdAt w At Ak nt nk l m x r y lt lr ld) (hok : brdOk ⟨l, m, a, b, c, d, e⟩ W H lt lr ld = true) (hk : k < m.length) :
    Calls Tryz.prog 68 #[bv (.slice At nt ct) (.slice Ak nk ck) a b c d e W H x r y, .int .i64 (k : Int)] w fun e' w' => ∃ v, e' = .returned v ∧ OwnI w' (w.heap.size + 1) v (opnL l lt k lt.length) ∧ Kp w w' := by
  have KA : Kp w (w.alloc (.cells #[.slice At nt ct, .slice Ak nk ck, .int .i64 a, .int .i64 b, .int .i64 c, .int .i64 d, .int .i64 e, .int .i64 W, .int .i64 H, x, r, y] 41)) := (Kp.refl w).alloc _
  have s0 : (w.alloc (.cells #[.slice At nt ct, .slice Ak nk ck, .int .i64 a, .int .i64 b, .int .i64 c, .int .i64 d, .int .i64 e, .int .i64 W, .int .i64 H, x, r, y] 41)).cell? ⟨w.heap.size, 0, none⟩ = some (.slice At nt ct) ∧ (w.alloc (.cells #[.slice At nt ct, .slice Ak nk ck, .int .i64 a, .int .i64 b, .int .i64 c, .int .i64 d, .int .i64 e, .int .i64 W, .int .i64 H, x, r, y] 41)).cell? ⟨w.heap.size, 1, none⟩ = some (.slice Ak nk ck) ∧ (w.alloc (.cells #[.slice At nt ct, .slice Ak nk ck, .int .i64 a, .int .i64 b, .int .i64 c, .int .i64 d, .int .i64 e, .int .i64 W, .int .i64 H, x, r, y] 41)).cell? ⟨w.heap.size, 2, none⟩ = some (.int .i64 a) ∧ (w.alloc (.cells #[.slice At nt ct, .slice Ak nk ck, .int .i64 a, .int .i64 b, .int .i64 c, .int .i64 d, .int .i64 e, .int .i64 W, .int .i64 H, x, r, y] 41)).cell? ⟨w.heap.size, 3, none⟩ = some (.int .i64 b) ∧ (w.alloc (.cells #[.slice At nt ct, .slice Ak nk ck, .int .i64 a, .int .i64 b, .int .i64 c, .int .i64 d, .int .i64 e, .int .i64 W, .int .i64 H, x, r, y] 41)).cell? ⟨w.heap.size, 4, none⟩ = some (.int .i64 c) ∧ (w.alloc (.cells #[.slice At nt ct, .slice Ak nk ck, .int .i64 a, .int .i64 b, .int .i64 c, .int .i64 d, .int .i64 e, .int .i64 W, .int .i64 H, x, r, y] 41)).cell? ⟨w.heap.size, 5, none⟩ = some (.int .i64 d) ∧ (w.alloc (.cells #[.slice At nt ct, .slice Ak nk ck, .int .i64 a, .int .i64 b, .int .i64 c, .int .i64 d, .int .i64 e, .int .i64 W, .int .i64 H, x, r, y] 41)).cell? ⟨w.heap.size, 6, none⟩ = some (.int .i64 e) ∧ (w.alloc (.cells #[.slice At nt ct, .slice Ak nk ck, .int .i64 a, .int .i64 b, .int .i64 c, .int .i64 d, .int .i64 e, .int .i64 W, .int .i64 H, x, r, y] 41)).cell? ⟨w.heap.size, 7, none⟩ = some (.int .i64 W) ∧ (w.alloc (.cells #[.slice At nt ct, .slice Ak nk ck, .int .i64 a, .int .i64 b, .int .i64 c, .int .i64 d, .int .i64 e, .int .i64 W, .int .i64 H, x, r, y] 41)).cell? ⟨w.heap.size, 8, none⟩ = some (.int .i64 H) ∧ (w.alloc (.cells #[.slice At nt ct, .slice Ak nk ck, .int .i64 a, .int .i64 b, .int .i64 c, .int .i64 d, .int .i64 e, .int .i64 W, .int .i64 H, x, r, y] 41)).cell? ⟨w.heap.size, 9, none⟩ = some (x) ∧ (w.alloc (.cells #[.slice At nt ct, .slice Ak nk ck, .int .i64 a, .int .i64 b, .int .i64 c, .int .i64 d, .int .i64 e, .int .i64 W, .int .i64 H, x, r, y] 41)).cell? ⟨w.heap.size, 10, none⟩ = some (r) ∧ (w.alloc (.cells #[.slice At nt ct, .slice Ak nk ck, .int .i64 a, .int .i64 b, .int .i64 c, .int .i64 d, .int .i64 e, .int .i64 W, .int .i64 H, x, r, y] 41)).cell? ⟨w.heap.size, 11, none⟩ = some (y) ∧ Kp w (w.alloc (.cells #[.slice At nt ct, .slice Ak nk ck, .int .i64 a, .int .i64 b, .int .i64 c, .int .i64 d, .int .i64 e, .int .i64 W, .int .i64 H, x, r, y] 41)) := ⟨by simp [go_sem], by simp [go_sem], by simp [go_sem], by simp [go_sem], by simp [go_sem], by simp [go_sem], by simp [go_sem], by simp [go_sem], by simp [go_sem], by simp [go_sem], by simp [go_sem], by simp [go_sem], KA⟩
  have HB := Lib.hid hB
  obtain ⟨h1, h2, h3, h4⟩ := mapOk_side (brdOk_map hok)
  have hA := area_bd h1 h2 h3 h4
  have hlen := mapOk_len (brdOk_map hok)
  obtain ⟨n, hn⟩ : ∃ n, lt.length = n := ⟨_, rfl⟩
  have hn1 : n ≤ 100 := by omega
  have CC : Hid (∀ w, Calls Tryz.prog 95 #[mp W H x r y] w fun e w' => e = .returned (.int .i64 (n : Int)) ∧ Kp w w') := Lib.hid fun w => by
    have := countHexes_any W H x r y w h1 h2 h3 h4
    rw [← hlen, hn] at this
    exact this
  rw [hn]
  have HF : Hid (∀ i, i < n → Hid (∀ w, BrdAt w At Ak nt nk l m x r y lt lr ld → Calls Tryz.prog 98 #[bv (.slice At nt ct) (.slice Ak nk ck) a b c d e W H x r y, .int .i64 (k : Int), .int .i64 (i : Int)] w fun e' w' => e' = .returned (.bool (opnB l lt k i)) ∧ Kp w w')) := Lib.hid fun i hi => Lib.hid fun w h => isOpen_any At Ak nt nk ct ck l m a b c d e W H x r y lt lr ld k i w h hok hk (by rw [hn]; exact hi)
  have HP : Hid (∀ i, opnB l lt k i = decide (0 < costB l lt k i)) := Lib.hid fun i => rfl
  have e0 : opnL l lt k n = filN (opnB l lt k) n := rfl
  rw [e0]
  generalize hF : opnB l lt k = F at HF HP ⊢
  generalize hG : costB l lt k = G at HF HP
  obtain ⟨j0, hj0, hz0, hs0, hb0⟩ := info_parts infoInt
  clear hB hok hk hlen hn hA KA hF hG
  go_enter Tryz.func68, Tryz.ntmps68
  go_wp2_with fail
  refine (CC.out _).mono ?_
  rintro e0 w0 ⟨rfl, k0⟩
  replace s0 : w0.cell? ⟨w.heap.size, 0, none⟩ = some (.slice At nt ct) ∧ w0.cell? ⟨w.heap.size, 1, none⟩ = some (.slice Ak nk ck) ∧ w0.cell? ⟨w.heap.size, 2, none⟩ = some (.int .i64 a) ∧ w0.cell? ⟨w.heap.size, 3, none⟩ = some (.int .i64 b) ∧ w0.cell? ⟨w.heap.size, 4, none⟩ = some (.int .i64 c) ∧ w0.cell? ⟨w.heap.size, 5, none⟩ = some (.int .i64 d) ∧ w0.cell? ⟨w.heap.size, 6, none⟩ = some (.int .i64 e) ∧ w0.cell? ⟨w.heap.size, 7, none⟩ = some (.int .i64 W) ∧ w0.cell? ⟨w.heap.size, 8, none⟩ = some (.int .i64 H) ∧ w0.cell? ⟨w.heap.size, 9, none⟩ = some (x) ∧ w0.cell? ⟨w.heap.size, 10, none⟩ = some (r) ∧ w0.cell? ⟨w.heap.size, 11, none⟩ = some (y) ∧ Kp w w0 := ⟨k0.cell s0.1, k0.cell s0.2.1, k0.cell s0.2.2.1, k0.cell s0.2.2.2.1, k0.cell s0.2.2.2.2.1, k0.cell s0.2.2.2.2.2.1, k0.cell s0.2.2.2.2.2.2.1, k0.cell s0.2.2.2.2.2.2.2.1, k0.cell s0.2.2.2.2.2.2.2.2.1, k0.cell s0.2.2.2.2.2.2.2.2.2.1, k0.cell s0.2.2.2.2.2.2.2.2.2.2.1, k0.cell s0.2.2.2.2.2.2.2.2.2.2.2.1, s0.2.2.2.2.2.2.2.2.2.2.2.2.trans k0⟩
  clear k0 CC
  go_wp2_with fail
  go_loopw [5, 6, 10] (fun v _ sq wx => ∃ q : Nat, q ≤ n ∧ sq = .int .i64 q ∧ OwnI wx (w.heap.size + 1) v (filN F q) ∧ wx.cell? ⟨w.heap.size, 0, none⟩ = some (.slice At nt ct) ∧ wx.cell? ⟨w.heap.size, 1, none⟩ = some (.slice Ak nk ck) ∧ wx.cell? ⟨w.heap.size, 2, none⟩ = some (.int .i64 a) ∧ wx.cell? ⟨w.heap.size, 3, none⟩ = some (.int .i64 b) ∧ wx.cell? ⟨w.heap.size, 4, none⟩ = some (.int .i64 c) ∧ wx.cell? ⟨w.heap.size, 5, none⟩ = some (.int .i64 d) ∧ wx.cell? ⟨w.heap.size, 6, none⟩ = some (.int .i64 e) ∧ wx.cell? ⟨w.heap.size, 7, none⟩ = some (.int .i64 W) ∧ wx.cell? ⟨w.heap.size, 8, none⟩ = some (.int .i64 H) ∧ wx.cell? ⟨w.heap.size, 9, none⟩ = some (x) ∧ wx.cell? ⟨w.heap.size, 10, none⟩ = some (r) ∧ wx.cell? ⟨w.heap.size, 11, none⟩ = some (y) ∧ Kp w wx) (fun _ _ sq _ => n - (intOf sq).toNat)
  case atStart => exact ⟨0, by omega, rfl, OwnI.nil _ _, s0⟩
  case round =>
    clear s0
    obtain ⟨q, hqn, rfl, hoR, sr⟩ := hrel
    by_cases hlt : q < n
    · have hlt' : (q : Int) < n := by omega
      have HO := Lib.hid hoR
      have kr : Kp w wr := sr.2.2.2.2.2.2.2.2.2.2.2.2
      clear hoR
      cases hf : F q
      · have HS : Hid (filN F (q + 1) = filN F q) := Lib.hid (filN_no hf)
        go_wp2_with fail
        refine ((HF.out q hlt).out _ (HB.out.keep kr)).mono ?_
        rintro e1 w1 ⟨rfl, k1⟩
        rw [hf]
        have HO1 := Lib.hid (HO.out.keep k1)
        have s1 : w1.cell? ⟨w.heap.size, 0, none⟩ = some (.slice At nt ct) ∧ w1.cell? ⟨w.heap.size, 1, none⟩ = some (.slice Ak nk ck) ∧ w1.cell? ⟨w.heap.size, 2, none⟩ = some (.int .i64 a) ∧ w1.cell? ⟨w.heap.size, 3, none⟩ = some (.int .i64 b) ∧ w1.cell? ⟨w.heap.size, 4, none⟩ = some (.int .i64 c) ∧ w1.cell? ⟨w.heap.size, 5, none⟩ = some (.int .i64 d) ∧ w1.cell? ⟨w.heap.size, 6, none⟩ = some (.int .i64 e) ∧ w1.cell? ⟨w.heap.size, 7, none⟩ = some (.int .i64 W) ∧ w1.cell? ⟨w.heap.size, 8, none⟩ = some (.int .i64 H) ∧ w1.cell? ⟨w.heap.size, 9, none⟩ = some (x) ∧ w1.cell? ⟨w.heap.size, 10, none⟩ = some (r) ∧ w1.cell? ⟨w.heap.size, 11, none⟩ = some (y) ∧ Kp w w1 := ⟨k1.cell sr.1, k1.cell sr.2.1, k1.cell sr.2.2.1, k1.cell sr.2.2.2.1, k1.cell sr.2.2.2.2.1, k1.cell sr.2.2.2.2.2.1, k1.cell sr.2.2.2.2.2.2.1, k1.cell sr.2.2.2.2.2.2.2.1, k1.cell sr.2.2.2.2.2.2.2.2.1, k1.cell sr.2.2.2.2.2.2.2.2.2.1, k1.cell sr.2.2.2.2.2.2.2.2.2.2.1, k1.cell sr.2.2.2.2.2.2.2.2.2.2.2.1, kr.trans k1⟩
        clear sr k1 HO kr
        go_wp2_with fail
        go_roundw
        case rel => exact ⟨q + 1, by omega, by go_num, by rw [HS.out]; exact HO1.out, s1⟩
        case measure => simp [intOf]; omega
      · have HS : Hid (filN F (q + 1) = filN F q ++ [(q : Int)]) := Lib.hid (filN_yes hf)
        have hln := Lib.hid (filN_len F q)
        go_wp2_with fail
        refine ((HF.out q hlt).out _ (HB.out.keep kr)).mono ?_
        rintro e1 w1 ⟨rfl, k1⟩
        rw [hf]
        have HO1 := Lib.hid (HO.out.keep k1)
        have s1 : w1.cell? ⟨w.heap.size, 0, none⟩ = some (.slice At nt ct) ∧ w1.cell? ⟨w.heap.size, 1, none⟩ = some (.slice Ak nk ck) ∧ w1.cell? ⟨w.heap.size, 2, none⟩ = some (.int .i64 a) ∧ w1.cell? ⟨w.heap.size, 3, none⟩ = some (.int .i64 b) ∧ w1.cell? ⟨w.heap.size, 4, none⟩ = some (.int .i64 c) ∧ w1.cell? ⟨w.heap.size, 5, none⟩ = some (.int .i64 d) ∧ w1.cell? ⟨w.heap.size, 6, none⟩ = some (.int .i64 e) ∧ w1.cell? ⟨w.heap.size, 7, none⟩ = some (.int .i64 W) ∧ w1.cell? ⟨w.heap.size, 8, none⟩ = some (.int .i64 H) ∧ w1.cell? ⟨w.heap.size, 9, none⟩ = some (x) ∧ w1.cell? ⟨w.heap.size, 10, none⟩ = some (r) ∧ w1.cell? ⟨w.heap.size, 11, none⟩ = some (y) ∧ Kp w w1 := ⟨k1.cell sr.1, k1.cell sr.2.1, k1.cell sr.2.2.1, k1.cell sr.2.2.2.1, k1.cell sr.2.2.2.2.1, k1.cell sr.2.2.2.2.2.1, k1.cell sr.2.2.2.2.2.2.1, k1.cell sr.2.2.2.2.2.2.2.1, k1.cell sr.2.2.2.2.2.2.2.2.1, k1.cell sr.2.2.2.2.2.2.2.2.2.1, k1.cell sr.2.2.2.2.2.2.2.2.2.2.1, k1.cell sr.2.2.2.2.2.2.2.2.2.2.2.1, kr.trans k1⟩
        have n0 := Lib.hid (HO1.out.not (g := w.heap.size) (by omega))
        have n1 := Lib.hid (HO1.out.not (g := w.heap.size) (by omega))
        have n2 := Lib.hid (HO1.out.not (g := w.heap.size) (by omega))
        have n3 := Lib.hid (HO1.out.not (g := w.heap.size) (by omega))
        have n4 := Lib.hid (HO1.out.not (g := w.heap.size) (by omega))
        have n5 := Lib.hid (HO1.out.not (g := w.heap.size) (by omega))
        have n6 := Lib.hid (HO1.out.not (g := w.heap.size) (by omega))
        have n7 := Lib.hid (HO1.out.not (g := w.heap.size) (by omega))
        have n8 := Lib.hid (HO1.out.not (g := w.heap.size) (by omega))
        have n9 := Lib.hid (HO1.out.not (g := w.heap.size) (by omega))
        have n10 := Lib.hid (HO1.out.not (g := w.heap.size) (by omega))
        have n11 := Lib.hid (HO1.out.not (g := w.heap.size) (by omega))
        have hbw : w.heap.size ≤ w1.heap.size := s1.2.2.2.2.2.2.2.2.2.2.2.2.size
        clear sr k1 HO kr
        go_wp2_with (at_builtin; refine wpList_append_own_at _ rfl (.tmp 17) (.tmp 19) 26 rfl (w.heap.size + 1) 3 j0 (.int .i64 0) 1 8 Tryz.underlying26 hj0 hz0 hs0 hb0 rfl (by decide) _ (filN F q).length (cellsI (filN F q)) rfl (World.ownsRow.alloc HO1.out _) ⟨w1.heap.size, 0, none⟩ 1 1 [.int .i64 q] rfl rfl (one_cell _ _ _) (by simp [Value.oneCell']) (by have := hln.out; simp only [maxLen]; omega) (by have := hln.out; omega) (by simp; omega) ?_; intro v' w3 hown2 hgrow2 hnil2 hat2; clear hnil2 hat2; have s5 : w3.cell? ⟨w.heap.size, 0, none⟩ = some (.slice At nt ct) ∧ w3.cell? ⟨w.heap.size, 1, none⟩ = some (.slice Ak nk ck) ∧ w3.cell? ⟨w.heap.size, 2, none⟩ = some (.int .i64 a) ∧ w3.cell? ⟨w.heap.size, 3, none⟩ = some (.int .i64 b) ∧ w3.cell? ⟨w.heap.size, 4, none⟩ = some (.int .i64 c) ∧ w3.cell? ⟨w.heap.size, 5, none⟩ = some (.int .i64 d) ∧ w3.cell? ⟨w.heap.size, 6, none⟩ = some (.int .i64 e) ∧ w3.cell? ⟨w.heap.size, 7, none⟩ = some (.int .i64 W) ∧ w3.cell? ⟨w.heap.size, 8, none⟩ = some (.int .i64 H) ∧ w3.cell? ⟨w.heap.size, 9, none⟩ = some (x) ∧ w3.cell? ⟨w.heap.size, 10, none⟩ = some (r) ∧ w3.cell? ⟨w.heap.size, 11, none⟩ = some (y) ∧ Kp w w3 := ⟨hgrow2.cell (((Kp.refl w1).alloc (.cells #[.int .i64 (q : Int)] 3)).cell s1.1) (fun e => n0.out e.symm), hgrow2.cell (((Kp.refl w1).alloc (.cells #[.int .i64 (q : Int)] 3)).cell s1.2.1) (fun e => n1.out e.symm), hgrow2.cell (((Kp.refl w1).alloc (.cells #[.int .i64 (q : Int)] 3)).cell s1.2.2.1) (fun e => n2.out e.symm), hgrow2.cell (((Kp.refl w1).alloc (.cells #[.int .i64 (q : Int)] 3)).cell s1.2.2.2.1) (fun e => n3.out e.symm), hgrow2.cell (((Kp.refl w1).alloc (.cells #[.int .i64 (q : Int)] 3)).cell s1.2.2.2.2.1) (fun e => n4.out e.symm), hgrow2.cell (((Kp.refl w1).alloc (.cells #[.int .i64 (q : Int)] 3)).cell s1.2.2.2.2.2.1) (fun e => n5.out e.symm), hgrow2.cell (((Kp.refl w1).alloc (.cells #[.int .i64 (q : Int)] 3)).cell s1.2.2.2.2.2.2.1) (fun e => n6.out e.symm), hgrow2.cell (((Kp.refl w1).alloc (.cells #[.int .i64 (q : Int)] 3)).cell s1.2.2.2.2.2.2.2.1) (fun e => n7.out e.symm), hgrow2.cell (((Kp.refl w1).alloc (.cells #[.int .i64 (q : Int)] 3)).cell s1.2.2.2.2.2.2.2.2.1) (fun e => n8.out e.symm), hgrow2.cell (((Kp.refl w1).alloc (.cells #[.int .i64 (q : Int)] 3)).cell s1.2.2.2.2.2.2.2.2.2.1) (fun e => n9.out e.symm), hgrow2.cell (((Kp.refl w1).alloc (.cells #[.int .i64 (q : Int)] 3)).cell s1.2.2.2.2.2.2.2.2.2.2.1) (fun e => n10.out e.symm), hgrow2.cell (((Kp.refl w1).alloc (.cells #[.int .i64 (q : Int)] 3)).cell s1.2.2.2.2.2.2.2.2.2.2.2.1) (fun e => n11.out e.symm), (s1.2.2.2.2.2.2.2.2.2.2.2.2.alloc _).grown hgrow2 (fun k e => by have := (World.ownsRow.lt HO1.out k e).1; omega)⟩; have O3 := Lib.hid (OwnI.snoc (x := q) hown2); clear hown2 hgrow2)
        go_roundw
        case rel => exact ⟨q + 1, by omega, by go_num, by rw [HS.out]; exact O3.out, s5⟩
        case measure => simp [intOf]; omega
    · obtain rfl : q = n := by omega
      go_wp2_with fail
      go_ret
      exact ⟨_, rfl, hoR, sr.2.2.2.2.2.2.2.2.2.2.2.2⟩

set_option maxRecDepth 100000 in
set_option maxHeartbeats 4000000 in
theorem bTerrain_full (At Ak : Option Addr) (nt nk ct ck : Nat) (l : List Ter) (m : List Knd) (a b c d e W H : Int) (x r y : Value) (lt lr ld : List Int) (k i : Nat) (w : World) (hB : BrdAt w At Ak nt nk l m x r y lt lr ld) (hok : brdOk ⟨l, m, a, b, c, d, e⟩ W H lt lr ld = true) (hk : k < m.length) (hi : i < lt.length) :
    Calls Tryz.prog 124 #[bv (.slice At nt ct) (.slice Ak nk ck) a b c d e W H x r y, .int .i64 (i : Int)] w fun e' w' => ∃ (nm : ByteArray) (g o n c : Nat) (s : Int) (t : Ter), terN l lt i = some t ∧ e' = .returned (tv nm (some ⟨g, o, none⟩) n c s t.height t.blocks) ∧ k < n ∧ w'.cell? ⟨g, o + k, none⟩ = some (.int .i64 (costB l lt k i)) ∧ Kp w w' := by
  obtain ⟨T, t, z, h1, h2, h3, h4, h5, h6, _, _⟩ := brd_hex hok hk hi
  rw [h6]
  obtain ⟨Bx, bx, rfl, hrt⟩ := hB.L.rt
  obtain ⟨gx, ox, rfl, hcx⟩ := hrt (by omega)
  have q1 := hcx i _ h1
  obtain ⟨hl, hrT⟩ := hB.R.rt
  obtain ⟨gt, ot, rfl, hct⟩ := hrT (by omega)
  obtain ⟨Ac, cc, ⟨u0, q2, u2, u3, u4⟩, hrc⟩ := hct T t h3
  obtain ⟨Ac', cc', ec, hrc'⟩ := hrc
  simp only [Value.slice.injEq] at ec
  obtain ⟨rfl, _, rfl⟩ := ec
  obtain ⟨gc, oc, rfl, hcc⟩ := hrc' (by omega)
  have q3 := hcc k _ h5
  have hbt := hB.L.bt
  have hbc := (hB.R.bc t (List.mem_of_getElem? h3)).1
  have hbn := hB.R.bt
  have hter : terN l lt i = some t := by
    unfold terN
    rw [h1]
    simpa using h3
  obtain ⟨nm, cs, sh, hg, bl⟩ := t
  have HT0 := Lib.hid hter
  clear hter
  simp only at u0 q2 u2 u3 u4 h4 hbc
  generalize cs.length = nc at q2 h4 hbc
  generalize lt.length = mt at hi hbt
  have f1 : T < nt := by omega
  have f2 : k < nc := by omega
  clear hB hok hrt hcx hrT hct hrc' hcc h1 h3 h5 h6 hl h2 h4 hk
  go_enter Tryz.func124, Tryz.ntmps124
  go_wp2_with fail
  have KA : Kp w ((w.alloc (.cells #[.slice (some ⟨gt, ot, none⟩) nt ct, .slice Ak nk ck, .int .i64 a, .int .i64 b, .int .i64 c, .int .i64 d, .int .i64 e, .int .i64 W, .int .i64 H, .slice (some ⟨gx, ox, none⟩) mt bx, r, y] 41)).alloc (.cells #[.string ByteArray.empty, .slice none 0 0, .int .i64 0, .int .i64 0, .bool false] 117)) := ((Kp.refl w).alloc _).alloc _
  have s0 : ((w.alloc (.cells #[.slice (some ⟨gt, ot, none⟩) nt ct, .slice Ak nk ck, .int .i64 a, .int .i64 b, .int .i64 c, .int .i64 d, .int .i64 e, .int .i64 W, .int .i64 H, .slice (some ⟨gx, ox, none⟩) mt bx, r, y] 41)).alloc (.cells #[.string ByteArray.empty, .slice none 0 0, .int .i64 0, .int .i64 0, .bool false] 117)).drew.cell? ⟨w.heap.size, 0, none⟩ = some (.slice (some ⟨gt, ot, none⟩) nt ct) ∧ ((w.alloc (.cells #[.slice (some ⟨gt, ot, none⟩) nt ct, .slice Ak nk ck, .int .i64 a, .int .i64 b, .int .i64 c, .int .i64 d, .int .i64 e, .int .i64 W, .int .i64 H, .slice (some ⟨gx, ox, none⟩) mt bx, r, y] 41)).alloc (.cells #[.string ByteArray.empty, .slice none 0 0, .int .i64 0, .int .i64 0, .bool false] 117)).drew.cell? ⟨w.heap.size, 9, none⟩ = some (.slice (some ⟨gx, ox, none⟩) mt bx) ∧ ((w.alloc (.cells #[.slice (some ⟨gt, ot, none⟩) nt ct, .slice Ak nk ck, .int .i64 a, .int .i64 b, .int .i64 c, .int .i64 d, .int .i64 e, .int .i64 W, .int .i64 H, .slice (some ⟨gx, ox, none⟩) mt bx, r, y] 41)).alloc (.cells #[.string ByteArray.empty, .slice none 0 0, .int .i64 0, .int .i64 0, .bool false] 117)).drew.cell? ⟨gx, ox + i, none⟩ = some (.int .i64 (T : Int)) ∧ ((w.alloc (.cells #[.slice (some ⟨gt, ot, none⟩) nt ct, .slice Ak nk ck, .int .i64 a, .int .i64 b, .int .i64 c, .int .i64 d, .int .i64 e, .int .i64 W, .int .i64 H, .slice (some ⟨gx, ox, none⟩) mt bx, r, y] 41)).alloc (.cells #[.string ByteArray.empty, .slice none 0 0, .int .i64 0, .int .i64 0, .bool false] 117)).drew.cell? ⟨gt, ot + T * 5, none⟩ = some (.string nm) ∧ ((w.alloc (.cells #[.slice (some ⟨gt, ot, none⟩) nt ct, .slice Ak nk ck, .int .i64 a, .int .i64 b, .int .i64 c, .int .i64 d, .int .i64 e, .int .i64 W, .int .i64 H, .slice (some ⟨gx, ox, none⟩) mt bx, r, y] 41)).alloc (.cells #[.string ByteArray.empty, .slice none 0 0, .int .i64 0, .int .i64 0, .bool false] 117)).drew.cell? ⟨gt, ot + T * 5 + 1, none⟩ = some (.slice (some ⟨gc, oc, none⟩) nc cc) ∧ ((w.alloc (.cells #[.slice (some ⟨gt, ot, none⟩) nt ct, .slice Ak nk ck, .int .i64 a, .int .i64 b, .int .i64 c, .int .i64 d, .int .i64 e, .int .i64 W, .int .i64 H, .slice (some ⟨gx, ox, none⟩) mt bx, r, y] 41)).alloc (.cells #[.string ByteArray.empty, .slice none 0 0, .int .i64 0, .int .i64 0, .bool false] 117)).drew.cell? ⟨gt, ot + T * 5 + 2, none⟩ = some (.int .i64 sh) ∧ ((w.alloc (.cells #[.slice (some ⟨gt, ot, none⟩) nt ct, .slice Ak nk ck, .int .i64 a, .int .i64 b, .int .i64 c, .int .i64 d, .int .i64 e, .int .i64 W, .int .i64 H, .slice (some ⟨gx, ox, none⟩) mt bx, r, y] 41)).alloc (.cells #[.string ByteArray.empty, .slice none 0 0, .int .i64 0, .int .i64 0, .bool false] 117)).drew.cell? ⟨gt, ot + T * 5 + 3, none⟩ = some (.int .i64 hg) ∧ ((w.alloc (.cells #[.slice (some ⟨gt, ot, none⟩) nt ct, .slice Ak nk ck, .int .i64 a, .int .i64 b, .int .i64 c, .int .i64 d, .int .i64 e, .int .i64 W, .int .i64 H, .slice (some ⟨gx, ox, none⟩) mt bx, r, y] 41)).alloc (.cells #[.string ByteArray.empty, .slice none 0 0, .int .i64 0, .int .i64 0, .bool false] 117)).drew.cell? ⟨gt, ot + T * 5 + 4, none⟩ = some (.bool bl) ∧ ((w.alloc (.cells #[.slice (some ⟨gt, ot, none⟩) nt ct, .slice Ak nk ck, .int .i64 a, .int .i64 b, .int .i64 c, .int .i64 d, .int .i64 e, .int .i64 W, .int .i64 H, .slice (some ⟨gx, ox, none⟩) mt bx, r, y] 41)).alloc (.cells #[.string ByteArray.empty, .slice none 0 0, .int .i64 0, .int .i64 0, .bool false] 117)).drew.cell? ⟨gc, oc + k, none⟩ = some (.int .i64 z) := ⟨by simp [go_sem], by simp [go_sem], KA.cell q1, KA.cell u0, KA.cell q2, KA.cell u2, KA.cell u3, KA.cell u4, KA.cell q3⟩
  have KB : Kp w ((w.alloc (.cells #[.slice (some ⟨gt, ot, none⟩) nt ct, .slice Ak nk ck, .int .i64 a, .int .i64 b, .int .i64 c, .int .i64 d, .int .i64 e, .int .i64 W, .int .i64 H, .slice (some ⟨gx, ox, none⟩) mt bx, r, y] 41)).alloc (.cells #[.string nm, .slice (some ⟨gc, oc, none⟩) nc cc, .int .i64 sh, .int .i64 hg, .bool bl] 117)) := ((Kp.refl w).alloc _).alloc _
  have s1 : ((w.alloc (.cells #[.slice (some ⟨gt, ot, none⟩) nt ct, .slice Ak nk ck, .int .i64 a, .int .i64 b, .int .i64 c, .int .i64 d, .int .i64 e, .int .i64 W, .int .i64 H, .slice (some ⟨gx, ox, none⟩) mt bx, r, y] 41)).alloc (.cells #[.string nm, .slice (some ⟨gc, oc, none⟩) nc cc, .int .i64 sh, .int .i64 hg, .bool bl] 117)).drew.cell? ⟨w.heap.size, 0, none⟩ = some (.slice (some ⟨gt, ot, none⟩) nt ct) ∧ ((w.alloc (.cells #[.slice (some ⟨gt, ot, none⟩) nt ct, .slice Ak nk ck, .int .i64 a, .int .i64 b, .int .i64 c, .int .i64 d, .int .i64 e, .int .i64 W, .int .i64 H, .slice (some ⟨gx, ox, none⟩) mt bx, r, y] 41)).alloc (.cells #[.string nm, .slice (some ⟨gc, oc, none⟩) nc cc, .int .i64 sh, .int .i64 hg, .bool bl] 117)).drew.cell? ⟨w.heap.size, 9, none⟩ = some (.slice (some ⟨gx, ox, none⟩) mt bx) ∧ ((w.alloc (.cells #[.slice (some ⟨gt, ot, none⟩) nt ct, .slice Ak nk ck, .int .i64 a, .int .i64 b, .int .i64 c, .int .i64 d, .int .i64 e, .int .i64 W, .int .i64 H, .slice (some ⟨gx, ox, none⟩) mt bx, r, y] 41)).alloc (.cells #[.string nm, .slice (some ⟨gc, oc, none⟩) nc cc, .int .i64 sh, .int .i64 hg, .bool bl] 117)).drew.cell? ⟨gx, ox + i, none⟩ = some (.int .i64 (T : Int)) ∧ ((w.alloc (.cells #[.slice (some ⟨gt, ot, none⟩) nt ct, .slice Ak nk ck, .int .i64 a, .int .i64 b, .int .i64 c, .int .i64 d, .int .i64 e, .int .i64 W, .int .i64 H, .slice (some ⟨gx, ox, none⟩) mt bx, r, y] 41)).alloc (.cells #[.string nm, .slice (some ⟨gc, oc, none⟩) nc cc, .int .i64 sh, .int .i64 hg, .bool bl] 117)).drew.cell? ⟨gt, ot + T * 5, none⟩ = some (.string nm) ∧ ((w.alloc (.cells #[.slice (some ⟨gt, ot, none⟩) nt ct, .slice Ak nk ck, .int .i64 a, .int .i64 b, .int .i64 c, .int .i64 d, .int .i64 e, .int .i64 W, .int .i64 H, .slice (some ⟨gx, ox, none⟩) mt bx, r, y] 41)).alloc (.cells #[.string nm, .slice (some ⟨gc, oc, none⟩) nc cc, .int .i64 sh, .int .i64 hg, .bool bl] 117)).drew.cell? ⟨gt, ot + T * 5 + 1, none⟩ = some (.slice (some ⟨gc, oc, none⟩) nc cc) ∧ ((w.alloc (.cells #[.slice (some ⟨gt, ot, none⟩) nt ct, .slice Ak nk ck, .int .i64 a, .int .i64 b, .int .i64 c, .int .i64 d, .int .i64 e, .int .i64 W, .int .i64 H, .slice (some ⟨gx, ox, none⟩) mt bx, r, y] 41)).alloc (.cells #[.string nm, .slice (some ⟨gc, oc, none⟩) nc cc, .int .i64 sh, .int .i64 hg, .bool bl] 117)).drew.cell? ⟨gt, ot + T * 5 + 2, none⟩ = some (.int .i64 sh) ∧ ((w.alloc (.cells #[.slice (some ⟨gt, ot, none⟩) nt ct, .slice Ak nk ck, .int .i64 a, .int .i64 b, .int .i64 c, .int .i64 d, .int .i64 e, .int .i64 W, .int .i64 H, .slice (some ⟨gx, ox, none⟩) mt bx, r, y] 41)).alloc (.cells #[.string nm, .slice (some ⟨gc, oc, none⟩) nc cc, .int .i64 sh, .int .i64 hg, .bool bl] 117)).drew.cell? ⟨gt, ot + T * 5 + 3, none⟩ = some (.int .i64 hg) ∧ ((w.alloc (.cells #[.slice (some ⟨gt, ot, none⟩) nt ct, .slice Ak nk ck, .int .i64 a, .int .i64 b, .int .i64 c, .int .i64 d, .int .i64 e, .int .i64 W, .int .i64 H, .slice (some ⟨gx, ox, none⟩) mt bx, r, y] 41)).alloc (.cells #[.string nm, .slice (some ⟨gc, oc, none⟩) nc cc, .int .i64 sh, .int .i64 hg, .bool bl] 117)).drew.cell? ⟨gt, ot + T * 5 + 4, none⟩ = some (.bool bl) ∧ ((w.alloc (.cells #[.slice (some ⟨gt, ot, none⟩) nt ct, .slice Ak nk ck, .int .i64 a, .int .i64 b, .int .i64 c, .int .i64 d, .int .i64 e, .int .i64 W, .int .i64 H, .slice (some ⟨gx, ox, none⟩) mt bx, r, y] 41)).alloc (.cells #[.string nm, .slice (some ⟨gc, oc, none⟩) nc cc, .int .i64 sh, .int .i64 hg, .bool bl] 117)).drew.cell? ⟨gc, oc + k, none⟩ = some (.int .i64 z) := ⟨by simp [go_sem], by simp [go_sem], KB.cell q1, KB.cell u0, KB.cell q2, KB.cell u2, KB.cell u3, KB.cell u4, KB.cell q3⟩
  have p3 := KB.cell q3
  clear q1 q2 q3 u0 u2 u3 u4
  go_region_held3 (fun w' => w'.cell? ⟨w.heap.size, 0, none⟩ = some (.slice (some ⟨gt, ot, none⟩) nt ct) ∧ w'.cell? ⟨w.heap.size, 9, none⟩ = some (.slice (some ⟨gx, ox, none⟩) mt bx) ∧ w'.cell? ⟨gx, ox + i, none⟩ = some (.int .i64 (T : Int)) ∧ w'.cell? ⟨gt, ot + T * 5, none⟩ = some (.string nm) ∧ w'.cell? ⟨gt, ot + T * 5 + 1, none⟩ = some (.slice (some ⟨gc, oc, none⟩) nc cc) ∧ w'.cell? ⟨gt, ot + T * 5 + 2, none⟩ = some (.int .i64 sh) ∧ w'.cell? ⟨gt, ot + T * 5 + 3, none⟩ = some (.int .i64 hg) ∧ w'.cell? ⟨gt, ot + T * 5 + 4, none⟩ = some (.bool bl) ∧ w'.cell? ⟨gc, oc + k, none⟩ = some (.int .i64 z)) (first | assumption | exact s0 | exact s1) (fail)
  go_wp2_with fail
  exact bodyPost_ret (v := tv nm (some ⟨gc, oc, none⟩) nc cc sh hg bl) (by simp [results, Tryz.results124, go_sem]) rfl ⟨nm, gc, oc, nc, cc, sh, ⟨nm, cs, sh, hg, bl⟩, HT0.out, rfl, f2, p3, KB.drew⟩

theorem bTerrain_any (At Ak : Option Addr) (nt nk ct ck : Nat) (l : List Ter) (m : List Knd) (a b c d e W H : Int) (x r y : Value) (lt lr ld : List Int) (k i : Nat) (w : World) (hB : BrdAt w At Ak nt nk l m x r y lt lr ld) (hok : brdOk ⟨l, m, a, b, c, d, e⟩ W H lt lr ld = true) (hk : k < m.length) (hi : i < lt.length) :
    Calls Tryz.prog 124 #[bv (.slice At nt ct) (.slice Ak nk ck) a b c d e W H x r y, .int .i64 (i : Int)] w fun e' w' => ∃ (nm : ByteArray) (g o n c : Nat) (s h : Int) (b : Bool), e' = .returned (tv nm (some ⟨g, o, none⟩) n c s h b) ∧ k < n ∧ w'.cell? ⟨g, o + k, none⟩ = some (.int .i64 (costB l lt k i)) ∧ Kp w w' :=
  (bTerrain_full At Ak nt nk ct ck l m a b c d e W H x r y lt lr ld k i w hB hok hk hi).mono fun _ _ ⟨nm, g, o, n, c, s, t, _, h2, h3, h4, h5⟩ => ⟨nm, g, o, n, c, s, t.height, t.blocks, h2, h3, h4, h5⟩

set_option maxRecDepth 100000 in
set_option maxHeartbeats 4000000 in
theorem bCost_any (At Ak : Option Addr) (nt nk ct ck : Nat) (l : List Ter) (m : List Knd) (a b c d e W H : Int) (x r y : Value) (lt lr ld : List Int) (k i : Nat) (w : World) (hB : BrdAt w At Ak nt nk l m x r y lt lr ld) (hok : brdOk ⟨l, m, a, b, c, d, e⟩ W H lt lr ld = true) (hk : k < m.length) (hi : i < lt.length) :
    Calls Tryz.prog 96 #[bv (.slice At nt ct) (.slice Ak nk ck) a b c d e W H x r y, .int .i64 (k : Int), .int .i64 (i : Int)] w fun e' w' => e' = .returned (.int .i64 (costB l lt k i)) ∧ Kp w w' := by
  have KA : Kp w (w.alloc (.cells #[.slice At nt ct, .slice Ak nk ck, .int .i64 a, .int .i64 b, .int .i64 c, .int .i64 d, .int .i64 e, .int .i64 W, .int .i64 H, x, r, y] 41)) := (Kp.refl w).alloc _
  have C1 := Lib.hid (bTerrain_any At Ak nt nk ct ck l m a b c d e W H x r y lt lr ld k i _ (hB.keep KA) hok hk hi)
  have hk4 : k < 4 := by have := (rulOk_nt (brdOk_rul hok)).2.2; omega
  generalize costB l lt k i = X at C1 ⊢
  clear hB hok hk hi
  go_enter Tryz.func96, Tryz.ntmps96
  go_wp2_with fail
  refine C1.out.mono ?_
  rintro e1 w1 ⟨nm, g, o, n, c', s, h, b', rfl, hkn, p, k1⟩
  have hf := fun w => fieldCost nm (some ⟨g, o, none⟩) n c' s h b' w
  go_wp2_with fail
  go_ret
  exact ⟨rfl, KA.trans k1⟩

set_option maxRecDepth 100000 in
set_option maxHeartbeats 4000000 in
theorem bOpen_any (At Ak : Option Addr) (nt nk ct ck : Nat) (l : List Ter) (m : List Knd) (a b c d e W H : Int) (x r y : Value) (lt lr ld : List Int) (k : Nat) (w : World) (hB : BrdAt w At Ak nt nk l m x r y lt lr ld) (hok : brdOk ⟨l, m, a, b, c, d, e⟩ W H lt lr ld = true) (hk : k < m.length) :
    Calls Tryz.prog 63 #[bv (.slice At nt ct) (.slice Ak nk ck) a b c d e W H x r y, .int .i64 (k : Int)] w fun e' w' => ∃ v, e' = .returned v ∧ OwnI w' (w.heap.size + 1) v (opnL l lt k lt.length) ∧ Kp w w' := by
  obtain ⟨n, hn⟩ : ∃ n, lt.length = n := ⟨_, rfl⟩
  obtain ⟨Bx, bx, ex, _⟩ := hB.L.rt
  rw [hn] at ex
  subst ex
  have KA : Kp w (w.alloc (.cells #[.slice At nt ct, .slice Ak nk ck, .int .i64 a, .int .i64 b, .int .i64 c, .int .i64 d, .int .i64 e, .int .i64 W, .int .i64 H, .slice Bx n bx, r, y] 41)) := (Kp.refl w).alloc _
  have s0 : (w.alloc (.cells #[.slice At nt ct, .slice Ak nk ck, .int .i64 a, .int .i64 b, .int .i64 c, .int .i64 d, .int .i64 e, .int .i64 W, .int .i64 H, .slice Bx n bx, r, y] 41)).cell? ⟨w.heap.size, 0, none⟩ = some (.slice At nt ct) ∧ (w.alloc (.cells #[.slice At nt ct, .slice Ak nk ck, .int .i64 a, .int .i64 b, .int .i64 c, .int .i64 d, .int .i64 e, .int .i64 W, .int .i64 H, .slice Bx n bx, r, y] 41)).cell? ⟨w.heap.size, 1, none⟩ = some (.slice Ak nk ck) ∧ (w.alloc (.cells #[.slice At nt ct, .slice Ak nk ck, .int .i64 a, .int .i64 b, .int .i64 c, .int .i64 d, .int .i64 e, .int .i64 W, .int .i64 H, .slice Bx n bx, r, y] 41)).cell? ⟨w.heap.size, 2, none⟩ = some (.int .i64 a) ∧ (w.alloc (.cells #[.slice At nt ct, .slice Ak nk ck, .int .i64 a, .int .i64 b, .int .i64 c, .int .i64 d, .int .i64 e, .int .i64 W, .int .i64 H, .slice Bx n bx, r, y] 41)).cell? ⟨w.heap.size, 3, none⟩ = some (.int .i64 b) ∧ (w.alloc (.cells #[.slice At nt ct, .slice Ak nk ck, .int .i64 a, .int .i64 b, .int .i64 c, .int .i64 d, .int .i64 e, .int .i64 W, .int .i64 H, .slice Bx n bx, r, y] 41)).cell? ⟨w.heap.size, 4, none⟩ = some (.int .i64 c) ∧ (w.alloc (.cells #[.slice At nt ct, .slice Ak nk ck, .int .i64 a, .int .i64 b, .int .i64 c, .int .i64 d, .int .i64 e, .int .i64 W, .int .i64 H, .slice Bx n bx, r, y] 41)).cell? ⟨w.heap.size, 5, none⟩ = some (.int .i64 d) ∧ (w.alloc (.cells #[.slice At nt ct, .slice Ak nk ck, .int .i64 a, .int .i64 b, .int .i64 c, .int .i64 d, .int .i64 e, .int .i64 W, .int .i64 H, .slice Bx n bx, r, y] 41)).cell? ⟨w.heap.size, 6, none⟩ = some (.int .i64 e) ∧ (w.alloc (.cells #[.slice At nt ct, .slice Ak nk ck, .int .i64 a, .int .i64 b, .int .i64 c, .int .i64 d, .int .i64 e, .int .i64 W, .int .i64 H, .slice Bx n bx, r, y] 41)).cell? ⟨w.heap.size, 7, none⟩ = some (.int .i64 W) ∧ (w.alloc (.cells #[.slice At nt ct, .slice Ak nk ck, .int .i64 a, .int .i64 b, .int .i64 c, .int .i64 d, .int .i64 e, .int .i64 W, .int .i64 H, .slice Bx n bx, r, y] 41)).cell? ⟨w.heap.size, 8, none⟩ = some (.int .i64 H) ∧ (w.alloc (.cells #[.slice At nt ct, .slice Ak nk ck, .int .i64 a, .int .i64 b, .int .i64 c, .int .i64 d, .int .i64 e, .int .i64 W, .int .i64 H, .slice Bx n bx, r, y] 41)).cell? ⟨w.heap.size, 9, none⟩ = some (.slice Bx n bx) ∧ (w.alloc (.cells #[.slice At nt ct, .slice Ak nk ck, .int .i64 a, .int .i64 b, .int .i64 c, .int .i64 d, .int .i64 e, .int .i64 W, .int .i64 H, .slice Bx n bx, r, y] 41)).cell? ⟨w.heap.size, 10, none⟩ = some (r) ∧ (w.alloc (.cells #[.slice At nt ct, .slice Ak nk ck, .int .i64 a, .int .i64 b, .int .i64 c, .int .i64 d, .int .i64 e, .int .i64 W, .int .i64 H, .slice Bx n bx, r, y] 41)).cell? ⟨w.heap.size, 11, none⟩ = some (y) ∧ Kp w (w.alloc (.cells #[.slice At nt ct, .slice Ak nk ck, .int .i64 a, .int .i64 b, .int .i64 c, .int .i64 d, .int .i64 e, .int .i64 W, .int .i64 H, .slice Bx n bx, r, y] 41)) := ⟨by simp [go_sem], by simp [go_sem], by simp [go_sem], by simp [go_sem], by simp [go_sem], by simp [go_sem], by simp [go_sem], by simp [go_sem], by simp [go_sem], by simp [go_sem], by simp [go_sem], by simp [go_sem], KA⟩
  have HB := Lib.hid hB
  obtain ⟨h1, h2, h3, h4⟩ := mapOk_side (brdOk_map hok)
  have hA := area_bd h1 h2 h3 h4
  have hlen := mapOk_len (brdOk_map hok)
  have hn1 : n ≤ 100 := by omega
  rw [hn]
  have HF : Hid (∀ i, i < n → Hid (∀ w, BrdAt w At Ak nt nk l m (.slice Bx n bx) r y lt lr ld → Calls Tryz.prog 96 #[bv (.slice At nt ct) (.slice Ak nk ck) a b c d e W H (.slice Bx n bx) r y, .int .i64 (k : Int), .int .i64 (i : Int)] w fun e' w' => e' = .returned (.int .i64 (costB l lt k i)) ∧ Kp w w')) := Lib.hid fun i hi => Lib.hid fun w h => bCost_any At Ak nt nk ct ck l m a b c d e W H (.slice Bx n bx) r y lt lr ld k i w h hok hk (by rw [hn]; exact hi)
  have HP : Hid (∀ i, opnB l lt k i = decide (0 < costB l lt k i)) := Lib.hid fun i => rfl
  have e0 : opnL l lt k n = filN (opnB l lt k) n := rfl
  rw [e0]
  generalize hF : opnB l lt k = F at HF HP ⊢
  generalize hG : costB l lt k = G at HF HP
  obtain ⟨j0, hj0, hz0, hs0, hb0⟩ := info_parts infoInt
  clear hB hok hk hlen hn hA KA hF hG
  go_enter Tryz.func63, Tryz.ntmps63
  go_wp2_with fail
  go_loopw [5, 6, 11] (fun v _ sq wx => ∃ q : Nat, q ≤ n ∧ sq = .int .i64 q ∧ OwnI wx (w.heap.size + 1) v (filN F q) ∧ wx.cell? ⟨w.heap.size, 0, none⟩ = some (.slice At nt ct) ∧ wx.cell? ⟨w.heap.size, 1, none⟩ = some (.slice Ak nk ck) ∧ wx.cell? ⟨w.heap.size, 2, none⟩ = some (.int .i64 a) ∧ wx.cell? ⟨w.heap.size, 3, none⟩ = some (.int .i64 b) ∧ wx.cell? ⟨w.heap.size, 4, none⟩ = some (.int .i64 c) ∧ wx.cell? ⟨w.heap.size, 5, none⟩ = some (.int .i64 d) ∧ wx.cell? ⟨w.heap.size, 6, none⟩ = some (.int .i64 e) ∧ wx.cell? ⟨w.heap.size, 7, none⟩ = some (.int .i64 W) ∧ wx.cell? ⟨w.heap.size, 8, none⟩ = some (.int .i64 H) ∧ wx.cell? ⟨w.heap.size, 9, none⟩ = some (.slice Bx n bx) ∧ wx.cell? ⟨w.heap.size, 10, none⟩ = some (r) ∧ wx.cell? ⟨w.heap.size, 11, none⟩ = some (y) ∧ Kp w wx) (fun _ _ sq _ => n - (intOf sq).toNat)
  case atStart => exact ⟨0, by omega, rfl, OwnI.nil _ _, s0⟩
  case round =>
    clear s0
    obtain ⟨q, hqn, rfl, hoR, sr⟩ := hrel
    by_cases hlt : q < n
    · have hlt' : (q : Int) < n := by omega
      have HO := Lib.hid hoR
      have kr : Kp w wr := sr.2.2.2.2.2.2.2.2.2.2.2.2
      clear hoR
      cases hf : F q
      · have HS : Hid (filN F (q + 1) = filN F q) := Lib.hid (filN_no hf)
        have hg : ¬ 0 < G q := by
          have := HP.out q
          rw [hf] at this
          simpa using this
        go_wp2_with fail
        refine ((HF.out q hlt).out _ (HB.out.keep kr)).mono ?_
        rintro e1 w1 ⟨rfl, k1⟩
        have HO1 := Lib.hid (HO.out.keep k1)
        have s1 : w1.cell? ⟨w.heap.size, 0, none⟩ = some (.slice At nt ct) ∧ w1.cell? ⟨w.heap.size, 1, none⟩ = some (.slice Ak nk ck) ∧ w1.cell? ⟨w.heap.size, 2, none⟩ = some (.int .i64 a) ∧ w1.cell? ⟨w.heap.size, 3, none⟩ = some (.int .i64 b) ∧ w1.cell? ⟨w.heap.size, 4, none⟩ = some (.int .i64 c) ∧ w1.cell? ⟨w.heap.size, 5, none⟩ = some (.int .i64 d) ∧ w1.cell? ⟨w.heap.size, 6, none⟩ = some (.int .i64 e) ∧ w1.cell? ⟨w.heap.size, 7, none⟩ = some (.int .i64 W) ∧ w1.cell? ⟨w.heap.size, 8, none⟩ = some (.int .i64 H) ∧ w1.cell? ⟨w.heap.size, 9, none⟩ = some (.slice Bx n bx) ∧ w1.cell? ⟨w.heap.size, 10, none⟩ = some (r) ∧ w1.cell? ⟨w.heap.size, 11, none⟩ = some (y) ∧ Kp w w1 := ⟨k1.cell sr.1, k1.cell sr.2.1, k1.cell sr.2.2.1, k1.cell sr.2.2.2.1, k1.cell sr.2.2.2.2.1, k1.cell sr.2.2.2.2.2.1, k1.cell sr.2.2.2.2.2.2.1, k1.cell sr.2.2.2.2.2.2.2.1, k1.cell sr.2.2.2.2.2.2.2.2.1, k1.cell sr.2.2.2.2.2.2.2.2.2.1, k1.cell sr.2.2.2.2.2.2.2.2.2.2.1, k1.cell sr.2.2.2.2.2.2.2.2.2.2.2.1, kr.trans k1⟩
        clear sr k1 HO kr
        go_wp2_with fail
        go_roundw
        case rel => exact ⟨q + 1, by omega, by go_num, by rw [HS.out]; exact HO1.out, s1⟩
        case measure => simp [intOf]; omega
      · have HS : Hid (filN F (q + 1) = filN F q ++ [(q : Int)]) := Lib.hid (filN_yes hf)
        have hln := Lib.hid (filN_len F q)
        have hg :  0 < G q := by
          have := HP.out q
          rw [hf] at this
          simpa using this
        go_wp2_with fail
        refine ((HF.out q hlt).out _ (HB.out.keep kr)).mono ?_
        rintro e1 w1 ⟨rfl, k1⟩
        have HO1 := Lib.hid (HO.out.keep k1)
        have s1 : w1.cell? ⟨w.heap.size, 0, none⟩ = some (.slice At nt ct) ∧ w1.cell? ⟨w.heap.size, 1, none⟩ = some (.slice Ak nk ck) ∧ w1.cell? ⟨w.heap.size, 2, none⟩ = some (.int .i64 a) ∧ w1.cell? ⟨w.heap.size, 3, none⟩ = some (.int .i64 b) ∧ w1.cell? ⟨w.heap.size, 4, none⟩ = some (.int .i64 c) ∧ w1.cell? ⟨w.heap.size, 5, none⟩ = some (.int .i64 d) ∧ w1.cell? ⟨w.heap.size, 6, none⟩ = some (.int .i64 e) ∧ w1.cell? ⟨w.heap.size, 7, none⟩ = some (.int .i64 W) ∧ w1.cell? ⟨w.heap.size, 8, none⟩ = some (.int .i64 H) ∧ w1.cell? ⟨w.heap.size, 9, none⟩ = some (.slice Bx n bx) ∧ w1.cell? ⟨w.heap.size, 10, none⟩ = some (r) ∧ w1.cell? ⟨w.heap.size, 11, none⟩ = some (y) ∧ Kp w w1 := ⟨k1.cell sr.1, k1.cell sr.2.1, k1.cell sr.2.2.1, k1.cell sr.2.2.2.1, k1.cell sr.2.2.2.2.1, k1.cell sr.2.2.2.2.2.1, k1.cell sr.2.2.2.2.2.2.1, k1.cell sr.2.2.2.2.2.2.2.1, k1.cell sr.2.2.2.2.2.2.2.2.1, k1.cell sr.2.2.2.2.2.2.2.2.2.1, k1.cell sr.2.2.2.2.2.2.2.2.2.2.1, k1.cell sr.2.2.2.2.2.2.2.2.2.2.2.1, kr.trans k1⟩
        have n0 := Lib.hid (HO1.out.not (g := w.heap.size) (by omega))
        have n1 := Lib.hid (HO1.out.not (g := w.heap.size) (by omega))
        have n2 := Lib.hid (HO1.out.not (g := w.heap.size) (by omega))
        have n3 := Lib.hid (HO1.out.not (g := w.heap.size) (by omega))
        have n4 := Lib.hid (HO1.out.not (g := w.heap.size) (by omega))
        have n5 := Lib.hid (HO1.out.not (g := w.heap.size) (by omega))
        have n6 := Lib.hid (HO1.out.not (g := w.heap.size) (by omega))
        have n7 := Lib.hid (HO1.out.not (g := w.heap.size) (by omega))
        have n8 := Lib.hid (HO1.out.not (g := w.heap.size) (by omega))
        have n9 := Lib.hid (HO1.out.not (g := w.heap.size) (by omega))
        have n10 := Lib.hid (HO1.out.not (g := w.heap.size) (by omega))
        have n11 := Lib.hid (HO1.out.not (g := w.heap.size) (by omega))
        have hbw : w.heap.size ≤ w1.heap.size := s1.2.2.2.2.2.2.2.2.2.2.2.2.size
        clear sr k1 HO kr
        go_wp2_with (at_builtin; refine wpList_append_own_at _ rfl (.tmp 19) (.tmp 21) 26 rfl (w.heap.size + 1) 3 j0 (.int .i64 0) 1 8 Tryz.underlying26 hj0 hz0 hs0 hb0 rfl (by decide) _ (filN F q).length (cellsI (filN F q)) rfl (World.ownsRow.alloc HO1.out _) ⟨w1.heap.size, 0, none⟩ 1 1 [.int .i64 q] rfl rfl (one_cell _ _ _) (by simp [Value.oneCell']) (by have := hln.out; simp only [maxLen]; omega) (by have := hln.out; omega) (by simp; omega) ?_; intro v' w3 hown2 hgrow2 hnil2 hat2; clear hnil2 hat2; have s5 : w3.cell? ⟨w.heap.size, 0, none⟩ = some (.slice At nt ct) ∧ w3.cell? ⟨w.heap.size, 1, none⟩ = some (.slice Ak nk ck) ∧ w3.cell? ⟨w.heap.size, 2, none⟩ = some (.int .i64 a) ∧ w3.cell? ⟨w.heap.size, 3, none⟩ = some (.int .i64 b) ∧ w3.cell? ⟨w.heap.size, 4, none⟩ = some (.int .i64 c) ∧ w3.cell? ⟨w.heap.size, 5, none⟩ = some (.int .i64 d) ∧ w3.cell? ⟨w.heap.size, 6, none⟩ = some (.int .i64 e) ∧ w3.cell? ⟨w.heap.size, 7, none⟩ = some (.int .i64 W) ∧ w3.cell? ⟨w.heap.size, 8, none⟩ = some (.int .i64 H) ∧ w3.cell? ⟨w.heap.size, 9, none⟩ = some (.slice Bx n bx) ∧ w3.cell? ⟨w.heap.size, 10, none⟩ = some (r) ∧ w3.cell? ⟨w.heap.size, 11, none⟩ = some (y) ∧ Kp w w3 := ⟨hgrow2.cell (((Kp.refl w1).alloc (.cells #[.int .i64 (q : Int)] 3)).cell s1.1) (fun e => n0.out e.symm), hgrow2.cell (((Kp.refl w1).alloc (.cells #[.int .i64 (q : Int)] 3)).cell s1.2.1) (fun e => n1.out e.symm), hgrow2.cell (((Kp.refl w1).alloc (.cells #[.int .i64 (q : Int)] 3)).cell s1.2.2.1) (fun e => n2.out e.symm), hgrow2.cell (((Kp.refl w1).alloc (.cells #[.int .i64 (q : Int)] 3)).cell s1.2.2.2.1) (fun e => n3.out e.symm), hgrow2.cell (((Kp.refl w1).alloc (.cells #[.int .i64 (q : Int)] 3)).cell s1.2.2.2.2.1) (fun e => n4.out e.symm), hgrow2.cell (((Kp.refl w1).alloc (.cells #[.int .i64 (q : Int)] 3)).cell s1.2.2.2.2.2.1) (fun e => n5.out e.symm), hgrow2.cell (((Kp.refl w1).alloc (.cells #[.int .i64 (q : Int)] 3)).cell s1.2.2.2.2.2.2.1) (fun e => n6.out e.symm), hgrow2.cell (((Kp.refl w1).alloc (.cells #[.int .i64 (q : Int)] 3)).cell s1.2.2.2.2.2.2.2.1) (fun e => n7.out e.symm), hgrow2.cell (((Kp.refl w1).alloc (.cells #[.int .i64 (q : Int)] 3)).cell s1.2.2.2.2.2.2.2.2.1) (fun e => n8.out e.symm), hgrow2.cell (((Kp.refl w1).alloc (.cells #[.int .i64 (q : Int)] 3)).cell s1.2.2.2.2.2.2.2.2.2.1) (fun e => n9.out e.symm), hgrow2.cell (((Kp.refl w1).alloc (.cells #[.int .i64 (q : Int)] 3)).cell s1.2.2.2.2.2.2.2.2.2.2.1) (fun e => n10.out e.symm), hgrow2.cell (((Kp.refl w1).alloc (.cells #[.int .i64 (q : Int)] 3)).cell s1.2.2.2.2.2.2.2.2.2.2.2.1) (fun e => n11.out e.symm), (s1.2.2.2.2.2.2.2.2.2.2.2.2.alloc _).grown hgrow2 (fun k e => by have := (World.ownsRow.lt HO1.out k e).1; omega)⟩; have O3 := Lib.hid (OwnI.snoc (x := q) hown2); clear hown2 hgrow2)
        go_roundw
        case rel => exact ⟨q + 1, by omega, by go_num, by rw [HS.out]; exact O3.out, s5⟩
        case measure => simp [intOf]; omega
    · obtain rfl : q = n := by omega
      go_wp2_with fail
      go_ret
      exact ⟨_, rfl, hoR, sr.2.2.2.2.2.2.2.2.2.2.2.2⟩

end Go.Proofs.YtfohhofpfmbheaaGreatDoor

/-
  The reference's tests of boards; open hexes and unused terrains as both sides hand them back. Nothing that was there is changed. The named variables hold what the program's text lays.
-/
namespace Go.Proofs.YtfohhofpfmbheaaGreatDoor
open Go.RowKit

set_option maxRecDepth 100000 in
set_option maxHeartbeats 4000000 in
theorem bGood_any (At Ak : Option Addr) (nt nk ct ck : Nat) (l : List Ter) (m : List Knd) (a b c d e W H : Int) (x r y : Value) (lt lr ld : List Int) (w : World) (hB : BrdAt w At Ak nt nk l m x r y lt lr ld) :
    Calls Tryz.prog 89 #[bv (.slice At nt ct) (.slice Ak nk ck) a b c d e W H x r y] w fun e' w' => e' = .returned (.bool (brdOk ⟨l, m, a, b, c, d, e⟩ W H lt lr ld)) ∧ Kp w w' := by
  have KA : Kp w (w.alloc (.cells #[.slice At nt ct, .slice Ak nk ck, .int .i64 a, .int .i64 b, .int .i64 c, .int .i64 d, .int .i64 e, .int .i64 W, .int .i64 H, x, r, y] 41)) := (Kp.refl w).alloc _
  have s0 : (w.alloc (.cells #[.slice At nt ct, .slice Ak nk ck, .int .i64 a, .int .i64 b, .int .i64 c, .int .i64 d, .int .i64 e, .int .i64 W, .int .i64 H, x, r, y] 41)).cell? ⟨w.heap.size, 0, none⟩ = some (.slice At nt ct) ∧ (w.alloc (.cells #[.slice At nt ct, .slice Ak nk ck, .int .i64 a, .int .i64 b, .int .i64 c, .int .i64 d, .int .i64 e, .int .i64 W, .int .i64 H, x, r, y] 41)).cell? ⟨w.heap.size, 1, none⟩ = some (.slice Ak nk ck) ∧ (w.alloc (.cells #[.slice At nt ct, .slice Ak nk ck, .int .i64 a, .int .i64 b, .int .i64 c, .int .i64 d, .int .i64 e, .int .i64 W, .int .i64 H, x, r, y] 41)).cell? ⟨w.heap.size, 2, none⟩ = some (.int .i64 a) ∧ (w.alloc (.cells #[.slice At nt ct, .slice Ak nk ck, .int .i64 a, .int .i64 b, .int .i64 c, .int .i64 d, .int .i64 e, .int .i64 W, .int .i64 H, x, r, y] 41)).cell? ⟨w.heap.size, 3, none⟩ = some (.int .i64 b) ∧ (w.alloc (.cells #[.slice At nt ct, .slice Ak nk ck, .int .i64 a, .int .i64 b, .int .i64 c, .int .i64 d, .int .i64 e, .int .i64 W, .int .i64 H, x, r, y] 41)).cell? ⟨w.heap.size, 4, none⟩ = some (.int .i64 c) ∧ (w.alloc (.cells #[.slice At nt ct, .slice Ak nk ck, .int .i64 a, .int .i64 b, .int .i64 c, .int .i64 d, .int .i64 e, .int .i64 W, .int .i64 H, x, r, y] 41)).cell? ⟨w.heap.size, 5, none⟩ = some (.int .i64 d) ∧ (w.alloc (.cells #[.slice At nt ct, .slice Ak nk ck, .int .i64 a, .int .i64 b, .int .i64 c, .int .i64 d, .int .i64 e, .int .i64 W, .int .i64 H, x, r, y] 41)).cell? ⟨w.heap.size, 6, none⟩ = some (.int .i64 e) ∧ (w.alloc (.cells #[.slice At nt ct, .slice Ak nk ck, .int .i64 a, .int .i64 b, .int .i64 c, .int .i64 d, .int .i64 e, .int .i64 W, .int .i64 H, x, r, y] 41)).cell? ⟨w.heap.size, 7, none⟩ = some (.int .i64 W) ∧ (w.alloc (.cells #[.slice At nt ct, .slice Ak nk ck, .int .i64 a, .int .i64 b, .int .i64 c, .int .i64 d, .int .i64 e, .int .i64 W, .int .i64 H, x, r, y] 41)).cell? ⟨w.heap.size, 8, none⟩ = some (.int .i64 H) ∧ (w.alloc (.cells #[.slice At nt ct, .slice Ak nk ck, .int .i64 a, .int .i64 b, .int .i64 c, .int .i64 d, .int .i64 e, .int .i64 W, .int .i64 H, x, r, y] 41)).cell? ⟨w.heap.size, 9, none⟩ = some (x) ∧ (w.alloc (.cells #[.slice At nt ct, .slice Ak nk ck, .int .i64 a, .int .i64 b, .int .i64 c, .int .i64 d, .int .i64 e, .int .i64 W, .int .i64 H, x, r, y] 41)).cell? ⟨w.heap.size, 10, none⟩ = some (r) ∧ (w.alloc (.cells #[.slice At nt ct, .slice Ak nk ck, .int .i64 a, .int .i64 b, .int .i64 c, .int .i64 d, .int .i64 e, .int .i64 W, .int .i64 H, x, r, y] 41)).cell? ⟨w.heap.size, 11, none⟩ = some (y) ∧ Kp w (w.alloc (.cells #[.slice At nt ct, .slice Ak nk ck, .int .i64 a, .int .i64 b, .int .i64 c, .int .i64 d, .int .i64 e, .int .i64 W, .int .i64 H, x, r, y] 41)) := ⟨by simp [go_sem], by simp [go_sem], by simp [go_sem], by simp [go_sem], by simp [go_sem], by simp [go_sem], by simp [go_sem], by simp [go_sem], by simp [go_sem], by simp [go_sem], by simp [go_sem], by simp [go_sem], KA⟩
  have HB := Lib.hid hB
  have C1 := Lib.hid (rGood_any At Ak nt nk ct ck l m a b c d e _ (hB.R.keep KA))
  have hl := hB.R.rt.1
  have e0 : brdOk ⟨l, m, a, b, c, d, e⟩ W H lt lr ld = ((rulOk ⟨l, m, a, b, c, d, e⟩ && mapOk W H lt lr ld) && lt.all (spB 0 ((nt : Int) - 1))) := by
    unfold brdOk
    rw [← hl]
  have hbt := hB.R.bt
  rw [e0]
  cases hr : rulOk ⟨l, m, a, b, c, d, e⟩
  · rw [hr] at C1
    clear hB hr e0 hl
    go_enter Tryz.func89, Tryz.ntmps89
    go_wp2_with fail
    refine C1.out.mono ?_
    rintro e1 w1 ⟨rfl, k1⟩
    go_wp2_with fail
    go_ret
    exact ⟨rfl, KA.trans k1⟩
  · rw [hr] at C1
    have CM := Lib.hid (fun w h => mGood_any W H x r y lt lr ld w h)
    cases hm : mapOk W H lt lr ld
    · rw [hm] at CM
      clear hB hr hm e0 hl
      go_enter Tryz.func89, Tryz.ntmps89
      go_wp2_with fail
      refine C1.out.mono ?_
      rintro e1 w1 ⟨rfl, k1⟩
      have s1 : w1.cell? ⟨w.heap.size, 0, none⟩ = some (.slice At nt ct) ∧ w1.cell? ⟨w.heap.size, 1, none⟩ = some (.slice Ak nk ck) ∧ w1.cell? ⟨w.heap.size, 2, none⟩ = some (.int .i64 a) ∧ w1.cell? ⟨w.heap.size, 3, none⟩ = some (.int .i64 b) ∧ w1.cell? ⟨w.heap.size, 4, none⟩ = some (.int .i64 c) ∧ w1.cell? ⟨w.heap.size, 5, none⟩ = some (.int .i64 d) ∧ w1.cell? ⟨w.heap.size, 6, none⟩ = some (.int .i64 e) ∧ w1.cell? ⟨w.heap.size, 7, none⟩ = some (.int .i64 W) ∧ w1.cell? ⟨w.heap.size, 8, none⟩ = some (.int .i64 H) ∧ w1.cell? ⟨w.heap.size, 9, none⟩ = some (x) ∧ w1.cell? ⟨w.heap.size, 10, none⟩ = some (r) ∧ w1.cell? ⟨w.heap.size, 11, none⟩ = some (y) ∧ Kp w w1 := ⟨k1.cell s0.1, k1.cell s0.2.1, k1.cell s0.2.2.1, k1.cell s0.2.2.2.1, k1.cell s0.2.2.2.2.1, k1.cell s0.2.2.2.2.2.1, k1.cell s0.2.2.2.2.2.2.1, k1.cell s0.2.2.2.2.2.2.2.1, k1.cell s0.2.2.2.2.2.2.2.2.1, k1.cell s0.2.2.2.2.2.2.2.2.2.1, k1.cell s0.2.2.2.2.2.2.2.2.2.2.1, k1.cell s0.2.2.2.2.2.2.2.2.2.2.2.1, s0.2.2.2.2.2.2.2.2.2.2.2.2.trans k1⟩
      clear s0 k1
      go_wp2_with fail
      refine (CM.out _ (HB.out.keep s1.2.2.2.2.2.2.2.2.2.2.2.2).L).mono ?_
      rintro e2 w2 ⟨rfl, k2⟩
      go_wp2_with fail
      go_ret
      exact ⟨rfl, s1.2.2.2.2.2.2.2.2.2.2.2.2.trans k2⟩
    · rw [hm] at CM
      clear hB hr hm e0 hl
      go_enter Tryz.func89, Tryz.ntmps89
      go_wp2_with fail
      refine C1.out.mono ?_
      rintro e1 w1 ⟨rfl, k1⟩
      have s1 : w1.cell? ⟨w.heap.size, 0, none⟩ = some (.slice At nt ct) ∧ w1.cell? ⟨w.heap.size, 1, none⟩ = some (.slice Ak nk ck) ∧ w1.cell? ⟨w.heap.size, 2, none⟩ = some (.int .i64 a) ∧ w1.cell? ⟨w.heap.size, 3, none⟩ = some (.int .i64 b) ∧ w1.cell? ⟨w.heap.size, 4, none⟩ = some (.int .i64 c) ∧ w1.cell? ⟨w.heap.size, 5, none⟩ = some (.int .i64 d) ∧ w1.cell? ⟨w.heap.size, 6, none⟩ = some (.int .i64 e) ∧ w1.cell? ⟨w.heap.size, 7, none⟩ = some (.int .i64 W) ∧ w1.cell? ⟨w.heap.size, 8, none⟩ = some (.int .i64 H) ∧ w1.cell? ⟨w.heap.size, 9, none⟩ = some (x) ∧ w1.cell? ⟨w.heap.size, 10, none⟩ = some (r) ∧ w1.cell? ⟨w.heap.size, 11, none⟩ = some (y) ∧ Kp w w1 := ⟨k1.cell s0.1, k1.cell s0.2.1, k1.cell s0.2.2.1, k1.cell s0.2.2.2.1, k1.cell s0.2.2.2.2.1, k1.cell s0.2.2.2.2.2.1, k1.cell s0.2.2.2.2.2.2.1, k1.cell s0.2.2.2.2.2.2.2.1, k1.cell s0.2.2.2.2.2.2.2.2.1, k1.cell s0.2.2.2.2.2.2.2.2.2.1, k1.cell s0.2.2.2.2.2.2.2.2.2.2.1, k1.cell s0.2.2.2.2.2.2.2.2.2.2.2.1, s0.2.2.2.2.2.2.2.2.2.2.2.2.trans k1⟩
      clear s0 k1
      go_wp2_with fail
      refine (CM.out _ (HB.out.keep s1.2.2.2.2.2.2.2.2.2.2.2.2).L).mono ?_
      rintro e2 w2 ⟨rfl, k2⟩
      have s2 : w2.cell? ⟨w.heap.size, 0, none⟩ = some (.slice At nt ct) ∧ w2.cell? ⟨w.heap.size, 1, none⟩ = some (.slice Ak nk ck) ∧ w2.cell? ⟨w.heap.size, 2, none⟩ = some (.int .i64 a) ∧ w2.cell? ⟨w.heap.size, 3, none⟩ = some (.int .i64 b) ∧ w2.cell? ⟨w.heap.size, 4, none⟩ = some (.int .i64 c) ∧ w2.cell? ⟨w.heap.size, 5, none⟩ = some (.int .i64 d) ∧ w2.cell? ⟨w.heap.size, 6, none⟩ = some (.int .i64 e) ∧ w2.cell? ⟨w.heap.size, 7, none⟩ = some (.int .i64 W) ∧ w2.cell? ⟨w.heap.size, 8, none⟩ = some (.int .i64 H) ∧ w2.cell? ⟨w.heap.size, 9, none⟩ = some (x) ∧ w2.cell? ⟨w.heap.size, 10, none⟩ = some (r) ∧ w2.cell? ⟨w.heap.size, 11, none⟩ = some (y) ∧ Kp w w2 := ⟨k2.cell s1.1, k2.cell s1.2.1, k2.cell s1.2.2.1, k2.cell s1.2.2.2.1, k2.cell s1.2.2.2.2.1, k2.cell s1.2.2.2.2.2.1, k2.cell s1.2.2.2.2.2.2.1, k2.cell s1.2.2.2.2.2.2.2.1, k2.cell s1.2.2.2.2.2.2.2.2.1, k2.cell s1.2.2.2.2.2.2.2.2.2.1, k2.cell s1.2.2.2.2.2.2.2.2.2.2.1, k2.cell s1.2.2.2.2.2.2.2.2.2.2.2.1, s1.2.2.2.2.2.2.2.2.2.2.2.2.trans k2⟩
      clear s1 k2
      go_wp2_with fail
      refine (l1All_sp _ lt _ _ _ (HB.out.keep s2.2.2.2.2.2.2.2.2.2.2.2.2).L.rt HB.out.L.bt).mono ?_
      rintro e3 w3 ⟨rfl, rfl⟩
      go_wp2_with fail
      go_ret
      exact ⟨ret_bool (by simp), s2.2.2.2.2.2.2.2.2.2.2.2.2⟩

set_option maxRecDepth 100000 in
set_option maxHeartbeats 4000000 in
theorem bAt_any (At Ak : Option Addr) (nt nk ct ck : Nat) (l : List Ter) (m : List Knd) (a b c d e W H : Int) (x r y : Value) (lt lr ld : List Int) (k i : Int) (w : World) (hB : BrdAt w At Ak nt nk l m x r y lt lr ld) :
    Calls Tryz.prog 54 #[bv (.slice At nt ct) (.slice Ak nk ck) a b c d e W H x r y, .int .i64 k, .int .i64 i] w fun e' w' => e' = .returned (.bool (brdOk ⟨l, m, a, b, c, d, e⟩ W H lt lr ld && inB k nk && onI W H i)) ∧ Kp w w' := by
  have KA : Kp w (w.alloc (.cells #[.slice At nt ct, .slice Ak nk ck, .int .i64 a, .int .i64 b, .int .i64 c, .int .i64 d, .int .i64 e, .int .i64 W, .int .i64 H, x, r, y] 41)) := (Kp.refl w).alloc _
  have s0 : (w.alloc (.cells #[.slice At nt ct, .slice Ak nk ck, .int .i64 a, .int .i64 b, .int .i64 c, .int .i64 d, .int .i64 e, .int .i64 W, .int .i64 H, x, r, y] 41)).cell? ⟨w.heap.size, 0, none⟩ = some (.slice At nt ct) ∧ (w.alloc (.cells #[.slice At nt ct, .slice Ak nk ck, .int .i64 a, .int .i64 b, .int .i64 c, .int .i64 d, .int .i64 e, .int .i64 W, .int .i64 H, x, r, y] 41)).cell? ⟨w.heap.size, 1, none⟩ = some (.slice Ak nk ck) ∧ (w.alloc (.cells #[.slice At nt ct, .slice Ak nk ck, .int .i64 a, .int .i64 b, .int .i64 c, .int .i64 d, .int .i64 e, .int .i64 W, .int .i64 H, x, r, y] 41)).cell? ⟨w.heap.size, 2, none⟩ = some (.int .i64 a) ∧ (w.alloc (.cells #[.slice At nt ct, .slice Ak nk ck, .int .i64 a, .int .i64 b, .int .i64 c, .int .i64 d, .int .i64 e, .int .i64 W, .int .i64 H, x, r, y] 41)).cell? ⟨w.heap.size, 3, none⟩ = some (.int .i64 b) ∧ (w.alloc (.cells #[.slice At nt ct, .slice Ak nk ck, .int .i64 a, .int .i64 b, .int .i64 c, .int .i64 d, .int .i64 e, .int .i64 W, .int .i64 H, x, r, y] 41)).cell? ⟨w.heap.size, 4, none⟩ = some (.int .i64 c) ∧ (w.alloc (.cells #[.slice At nt ct, .slice Ak nk ck, .int .i64 a, .int .i64 b, .int .i64 c, .int .i64 d, .int .i64 e, .int .i64 W, .int .i64 H, x, r, y] 41)).cell? ⟨w.heap.size, 5, none⟩ = some (.int .i64 d) ∧ (w.alloc (.cells #[.slice At nt ct, .slice Ak nk ck, .int .i64 a, .int .i64 b, .int .i64 c, .int .i64 d, .int .i64 e, .int .i64 W, .int .i64 H, x, r, y] 41)).cell? ⟨w.heap.size, 6, none⟩ = some (.int .i64 e) ∧ (w.alloc (.cells #[.slice At nt ct, .slice Ak nk ck, .int .i64 a, .int .i64 b, .int .i64 c, .int .i64 d, .int .i64 e, .int .i64 W, .int .i64 H, x, r, y] 41)).cell? ⟨w.heap.size, 7, none⟩ = some (.int .i64 W) ∧ (w.alloc (.cells #[.slice At nt ct, .slice Ak nk ck, .int .i64 a, .int .i64 b, .int .i64 c, .int .i64 d, .int .i64 e, .int .i64 W, .int .i64 H, x, r, y] 41)).cell? ⟨w.heap.size, 8, none⟩ = some (.int .i64 H) ∧ (w.alloc (.cells #[.slice At nt ct, .slice Ak nk ck, .int .i64 a, .int .i64 b, .int .i64 c, .int .i64 d, .int .i64 e, .int .i64 W, .int .i64 H, x, r, y] 41)).cell? ⟨w.heap.size, 9, none⟩ = some (x) ∧ (w.alloc (.cells #[.slice At nt ct, .slice Ak nk ck, .int .i64 a, .int .i64 b, .int .i64 c, .int .i64 d, .int .i64 e, .int .i64 W, .int .i64 H, x, r, y] 41)).cell? ⟨w.heap.size, 10, none⟩ = some (r) ∧ (w.alloc (.cells #[.slice At nt ct, .slice Ak nk ck, .int .i64 a, .int .i64 b, .int .i64 c, .int .i64 d, .int .i64 e, .int .i64 W, .int .i64 H, x, r, y] 41)).cell? ⟨w.heap.size, 11, none⟩ = some (y) ∧ Kp w (w.alloc (.cells #[.slice At nt ct, .slice Ak nk ck, .int .i64 a, .int .i64 b, .int .i64 c, .int .i64 d, .int .i64 e, .int .i64 W, .int .i64 H, x, r, y] 41)) := ⟨by simp [go_sem], by simp [go_sem], by simp [go_sem], by simp [go_sem], by simp [go_sem], by simp [go_sem], by simp [go_sem], by simp [go_sem], by simp [go_sem], by simp [go_sem], by simp [go_sem], by simp [go_sem], KA⟩
  have HB := Lib.hid hB
  have C1 := Lib.hid (bGood_any At Ak nt nk ct ck l m a b c d e W H x r y lt lr ld _ (hB.keep KA))
  cases ho : brdOk ⟨l, m, a, b, c, d, e⟩ W H lt lr ld
  · rw [ho] at C1
    clear hB ho
    go_enter Tryz.func54, Tryz.ntmps54
    go_wp2_with fail
    refine C1.out.mono ?_
    rintro e1 w1 ⟨rfl, k1⟩
    go_wp2_with fail
    go_ret
    exact ⟨rfl, KA.trans k1⟩
  · rw [ho] at C1
    obtain ⟨h1, h2, h3, h4⟩ := mapOk_side (brdOk_map ho)
    have hA := area_bd h1 h2 h3 h4
    have hbk := hB.R.bk
    have CL : Hid (∀ w, Calls Tryz.prog 55 #[.int .i64 k, .int .i64 0, .int .i64 ((nk : Int) - 1)] w fun e w' => e = .returned (.bool (inB k nk)) ∧ w = w') := Lib.hid fun w => l1In_lt k nk _ w rfl
    have CI : Hid (∀ w, Calls Tryz.prog 55 #[.int .i64 i, .int .i64 0, .int .i64 (W * H - 1)] w fun e w' => e = .returned (.bool (onI W H i)) ∧ w = w') := Lib.hid fun w => l1In_lt i (W * H) _ w rfl
    have CS := Lib.hid (fun w => mSize_any W H x r y w h1 h2 h3 h4)
    cases hk : inB k nk
    · rw [hk] at CL
      clear hB ho hk h1 h2 h3 h4 hA
      go_enter Tryz.func54, Tryz.ntmps54
      go_wp2_with fail
      refine C1.out.mono ?_
      rintro e1 w1 ⟨rfl, k1⟩
      have s1 : w1.cell? ⟨w.heap.size, 0, none⟩ = some (.slice At nt ct) ∧ w1.cell? ⟨w.heap.size, 1, none⟩ = some (.slice Ak nk ck) ∧ w1.cell? ⟨w.heap.size, 2, none⟩ = some (.int .i64 a) ∧ w1.cell? ⟨w.heap.size, 3, none⟩ = some (.int .i64 b) ∧ w1.cell? ⟨w.heap.size, 4, none⟩ = some (.int .i64 c) ∧ w1.cell? ⟨w.heap.size, 5, none⟩ = some (.int .i64 d) ∧ w1.cell? ⟨w.heap.size, 6, none⟩ = some (.int .i64 e) ∧ w1.cell? ⟨w.heap.size, 7, none⟩ = some (.int .i64 W) ∧ w1.cell? ⟨w.heap.size, 8, none⟩ = some (.int .i64 H) ∧ w1.cell? ⟨w.heap.size, 9, none⟩ = some (x) ∧ w1.cell? ⟨w.heap.size, 10, none⟩ = some (r) ∧ w1.cell? ⟨w.heap.size, 11, none⟩ = some (y) ∧ Kp w w1 := ⟨k1.cell s0.1, k1.cell s0.2.1, k1.cell s0.2.2.1, k1.cell s0.2.2.2.1, k1.cell s0.2.2.2.2.1, k1.cell s0.2.2.2.2.2.1, k1.cell s0.2.2.2.2.2.2.1, k1.cell s0.2.2.2.2.2.2.2.1, k1.cell s0.2.2.2.2.2.2.2.2.1, k1.cell s0.2.2.2.2.2.2.2.2.2.1, k1.cell s0.2.2.2.2.2.2.2.2.2.2.1, k1.cell s0.2.2.2.2.2.2.2.2.2.2.2.1, s0.2.2.2.2.2.2.2.2.2.2.2.2.trans k1⟩
      clear s0 k1
      go_wp2_with fail
      refine (CL.out _).mono ?_
      rintro e2 w2 ⟨rfl, rfl⟩
      go_wp2_with fail
      go_ret
      exact ⟨rfl, s1.2.2.2.2.2.2.2.2.2.2.2.2⟩
    · rw [hk] at CL
      clear hB ho hk h1 h2 h3 h4
      go_enter Tryz.func54, Tryz.ntmps54
      go_wp2_with fail
      refine C1.out.mono ?_
      rintro e1 w1 ⟨rfl, k1⟩
      have s1 : w1.cell? ⟨w.heap.size, 0, none⟩ = some (.slice At nt ct) ∧ w1.cell? ⟨w.heap.size, 1, none⟩ = some (.slice Ak nk ck) ∧ w1.cell? ⟨w.heap.size, 2, none⟩ = some (.int .i64 a) ∧ w1.cell? ⟨w.heap.size, 3, none⟩ = some (.int .i64 b) ∧ w1.cell? ⟨w.heap.size, 4, none⟩ = some (.int .i64 c) ∧ w1.cell? ⟨w.heap.size, 5, none⟩ = some (.int .i64 d) ∧ w1.cell? ⟨w.heap.size, 6, none⟩ = some (.int .i64 e) ∧ w1.cell? ⟨w.heap.size, 7, none⟩ = some (.int .i64 W) ∧ w1.cell? ⟨w.heap.size, 8, none⟩ = some (.int .i64 H) ∧ w1.cell? ⟨w.heap.size, 9, none⟩ = some (x) ∧ w1.cell? ⟨w.heap.size, 10, none⟩ = some (r) ∧ w1.cell? ⟨w.heap.size, 11, none⟩ = some (y) ∧ Kp w w1 := ⟨k1.cell s0.1, k1.cell s0.2.1, k1.cell s0.2.2.1, k1.cell s0.2.2.2.1, k1.cell s0.2.2.2.2.1, k1.cell s0.2.2.2.2.2.1, k1.cell s0.2.2.2.2.2.2.1, k1.cell s0.2.2.2.2.2.2.2.1, k1.cell s0.2.2.2.2.2.2.2.2.1, k1.cell s0.2.2.2.2.2.2.2.2.2.1, k1.cell s0.2.2.2.2.2.2.2.2.2.2.1, k1.cell s0.2.2.2.2.2.2.2.2.2.2.2.1, s0.2.2.2.2.2.2.2.2.2.2.2.2.trans k1⟩
      clear s0 k1
      go_wp2_with fail
      refine (CL.out _).mono ?_
      rintro e2 w2 ⟨rfl, rfl⟩
      go_wp2_with fail
      refine (CS.out _).mono ?_
      rintro e3 w3 ⟨rfl, k3⟩
      go_wp2_with fail
      refine (CI.out _).mono ?_
      rintro e4 w4 ⟨rfl, rfl⟩
      go_wp2_with fail
      go_ret
      exact ⟨ret_bool (by simp), s1.2.2.2.2.2.2.2.2.2.2.2.2.trans k3⟩

theorem onI_zero {W H : Int} (a : 1 ≤ W) (c : 1 ≤ H) : onI W H 0 = true := by
  have : 1 ≤ W * H := by
    have := Int.mul_le_mul a c (by omega) (by omega)
    omega
  simp [onI]
  omega

end Go.Proofs.YtfohhofpfmbheaaGreatDoor

/-
  What the laws' sizes say: a negative number, or what is left and that all is small.
-/
namespace Go.Proofs.YtfohhofpfmbheaaGreatDoor
open Go.RowKit

/-- A negative number, or what is left and P. -/
def SzPost (P : Prop) (w : World) (e : Ending) (w' : World) : Prop := ∃ r : Int, e = .returned (.int .i64 r) ∧ r ≤ 1048576 ∧ -1 ≤ r ∧ (0 ≤ r → P) ∧ Kp w w'

end Go.Proofs.YtfohhofpfmbheaaGreatDoor

/-
  The laws' sizes of terrains, kinds and rules: either what is left is negative, or all that was counted is small. Nothing that was there is changed.
-/
namespace Go.Proofs.YtfohhofpfmbheaaGreatDoor
open Go.RowKit

def smT (x : Ter) : Prop := x.cost.length ≤ 1048576 ∧ x.name.size ≤ 1048576
def smK (x : Knd) : Prop := x.name.size ≤ 1048576

theorem szTerrain_any (n : ByteArray) (A : Option Addr) (nc cc : Nat) (s h : Int) (b : Bool) (left : Int) (w : World) (h0 : 0 ≤ left) (h1 : left ≤ 1048576) (hn : n.size ≤ 9223372036854775807) (hc : nc ≤ 9223372036854775807) :
    Calls Tryz.prog 99 #[tv n A nc cc s h b, .int .i64 left] w (SzPost (nc ≤ 1048576 ∧ n.size ≤ 1048576) w) := by
  by_cases a1 : (n.size : Int) ≤ left
  · have a1' : ¬ (left - n.size) < 0 := by omega
    by_cases a2 : (nc : Int) ≤ left - n.size
    · have a2' : ¬ (left - n.size - nc) < 0 := by omega
      go_enter Tryz.func99, Tryz.ntmps99
      go_wp2_with fail
      refine (szIntS_yes _ _ _ _ _ (by omega) (by omega) (by omega)).mono ?_
      rintro e1 w1 ⟨rfl, rfl⟩
      go_wp2_with fail
      go_ret
      exact ⟨_, rfl, by omega, by omega, fun _ => (by omega), (Kp.refl _).alloc _⟩
    · go_enter Tryz.func99, Tryz.ntmps99
      go_wp2_with fail
      refine (szIntS_no _ _ _ _ _ (by omega) (by omega) (by omega) (by omega)).mono ?_
      rintro e1 w1 ⟨rfl, rfl⟩
      go_wp2_with fail
      go_ret
      exact ⟨_, rfl, by omega, by omega, fun h => absurd h (by omega), (Kp.refl _).alloc _⟩
  · have a1' : (left - n.size) < 0 := by omega
    go_enter Tryz.func99, Tryz.ntmps99
    go_wp2_with fail
    go_ret
    exact ⟨_, rfl, by omega, by omega, fun h => absurd h (by omega), (Kp.refl _).alloc _⟩

theorem szKind_any (n : ByteArray) (a b c : Int) (z : Bool) (v : Int) (left : Int) (w : World) (h0 : 0 ≤ left) (h1 : left ≤ 1048576) (hn : n.size ≤ 9223372036854775807) :
    Calls Tryz.prog 100 #[kv n a b c z v, .int .i64 left] w (SzPost (n.size ≤ 1048576) w) := by
  by_cases a1 : (n.size : Int) ≤ left
  · have a1' : ¬ (left - n.size) < 0 := by omega
    go_enter Tryz.func100, Tryz.ntmps100
    go_wp2_with fail
    go_ret
    exact ⟨_, rfl, by omega, by omega, fun _ => (by omega), (Kp.refl _).alloc _⟩
  · have a1' : (left - n.size) < 0 := by omega
    go_enter Tryz.func100, Tryz.ntmps100
    go_wp2_with fail
    go_ret
    exact ⟨_, rfl, by omega, by omega, fun h => absurd h (by omega), (Kp.refl _).alloc _⟩

set_option maxRecDepth 100000 in
set_option maxHeartbeats 1000000 in
theorem szTerrainS_any (A : Option Addr) (n c : Nat) (l : List Ter) (left : Int) (w : World) (h : RdT w A n l) (h0 : 0 ≤ left) (h1 : left ≤ 1048576) (hn : n ≤ 9223372036854775807) (hb : ∀ x ∈ l, x.cost.length ≤ 9223372036854775807 ∧ x.name.size ≤ 9223372036854775807) :
    Calls Tryz.prog 69 #[.slice A n c, .int .i64 left] w (SzPost (n ≤ 1048576 ∧ ∀ x ∈ l, smT x) w) := by
  have HN := Lib.hid h.1
  have HA := Lib.hid h.2
  have HB := Lib.hid hb
  clear h hb
  obtain ⟨P, hP⟩ : ∃ P, P = (n ≤ 1048576 ∧ ∀ x ∈ l, smT x) := ⟨_, rfl⟩
  rw [← hP]
  have HP := Lib.hid hP
  clear hP
  by_cases a1 : (n : Int) ≤ left
  · have a1' : ¬ (left - n) < 0 := by omega
    go_enter Tryz.func69, Tryz.ntmps69
    go_wp2_with fail
    go_loopw [1, 5] (fun v i wr => ∃ (k : Nat) (r : Int), k ≤ n ∧ i = .int .i64 k ∧ v = .int .i64 r ∧ 0 ≤ r ∧ r ≤ 1048576 ∧ Hid (∀ j x, j < k → l[j]? = some x → smT x) ∧ Kp w wr) (fun _ i _ => n - (intOf i).toNat)
    case atStart => exact ⟨0, _, by omega, rfl, rfl, by omega, by omega, Lib.hid fun j x hj => absurd hj (by omega), Kp.refl _⟩
    case round =>
      obtain ⟨k, r, hk, rfl, rfl, r0, r1, hE, kr⟩ := hrel
      by_cases hlt : k < n
      · have hlt' : (k : Int) < n := by omega
        obtain ⟨g, off, rfl, hc⟩ := HA.out (by omega)
        obtain ⟨x, hx⟩ : ∃ x, l[k]? = some x := ⟨l[k]'(by have := HN.out; omega), List.getElem?_eq_getElem _⟩
        obtain ⟨Ac, cc, ⟨a0, a1, a2, a3, a4⟩, _⟩ := (hc k x hx).keep kr
        have HX := Lib.hid hx
        have hbx := HB.out x (List.mem_of_getElem? hx)
        obtain ⟨nm, cs, sh, hg, bl⟩ := x
        simp only at a0 a1 a2 a3 a4 hbx
        obtain ⟨hb1, hb2⟩ := hbx
        generalize hnc : cs.length = nc at a1 hb1
        have HNC2 := Lib.hid hnc
        clear hnc
        clear hc hx
        go_wp2_with fail
        refine (szTerrain_any _ _ _ _ _ _ _ _ _ r0 r1 hb2 hb1).mono ?_
        rintro e1 w1 ⟨r2, rfl, u1, u2, u3, k1⟩
        by_cases hneg : r2 < 0
        · go_wp2_with fail
          go_ret
          exact ⟨_, rfl, by omega, by omega, fun h => absurd h (by omega), kr.trans k1⟩
        · have hs : Hid (smT ⟨nm, cs, sh, hg, bl⟩) := Lib.hid (by have := u3 (by omega); simpa [smT, HNC2.out] using this)
          have HE2 : Hid (∀ j x, j < k + 1 → l[j]? = some x → smT x) := Lib.hid fun j x hj hx => by
            rcases Nat.lt_or_ge j k with hjk | hjk
            · exact hE.out j x hjk hx
            · obtain rfl : j = k := by omega
              rw [HX.out] at hx
              obtain rfl := Option.some.inj hx
              exact hs.out
          clear u3
          go_wp2_with fail
          go_roundw
          case rel => exact ⟨k + 1, r2, by omega, by go_num, rfl, by omega, by omega, HE2, kr.trans k1⟩
          case measure => simp [intOf]; omega
      · obtain rfl : k = n := by omega
        go_wp2_with fail
        go_ret
        refine ⟨_, rfl, by omega, by omega, fun _ => ?_, kr⟩
        rw [HP.out]
        refine ⟨by omega, fun x hx => ?_⟩
        obtain ⟨i, hi, rfl⟩ := List.mem_iff_getElem.1 hx
        exact hE.out i _ (by have := HN.out; omega) (List.getElem?_eq_getElem hi)
  · have a1' : (left - n) < 0 := by omega
    go_enter Tryz.func69, Tryz.ntmps69
    go_wp2_with fail
    go_ret
    exact ⟨_, rfl, by omega, by omega, fun h => absurd h (by omega), Kp.refl _⟩

set_option maxRecDepth 100000 in
set_option maxHeartbeats 1000000 in
theorem szKindS_any (A : Option Addr) (n c : Nat) (l : List Knd) (left : Int) (w : World) (h : RdK w A n l) (h0 : 0 ≤ left) (h1 : left ≤ 1048576) (hn : n ≤ 9223372036854775807) (hb : ∀ x ∈ l, x.name.size ≤ 9223372036854775807) :
    Calls Tryz.prog 70 #[.slice A n c, .int .i64 left] w (SzPost (n ≤ 1048576 ∧ ∀ x ∈ l, smK x) w) := by
  have HN := Lib.hid h.1
  have HA := Lib.hid h.2
  have HB := Lib.hid hb
  clear h hb
  obtain ⟨P, hP⟩ : ∃ P, P = (n ≤ 1048576 ∧ ∀ x ∈ l, smK x) := ⟨_, rfl⟩
  rw [← hP]
  have HP := Lib.hid hP
  clear hP
  by_cases a1 : (n : Int) ≤ left
  · have a1' : ¬ (left - n) < 0 := by omega
    go_enter Tryz.func70, Tryz.ntmps70
    go_wp2_with fail
    go_loopw [1, 5] (fun v i wr => ∃ (k : Nat) (r : Int), k ≤ n ∧ i = .int .i64 k ∧ v = .int .i64 r ∧ 0 ≤ r ∧ r ≤ 1048576 ∧ Hid (∀ j x, j < k → l[j]? = some x → smK x) ∧ Kp w wr) (fun _ i _ => n - (intOf i).toNat)
    case atStart => exact ⟨0, _, by omega, rfl, rfl, by omega, by omega, Lib.hid fun j x hj => absurd hj (by omega), Kp.refl _⟩
    case round =>
      obtain ⟨k, r, hk, rfl, rfl, r0, r1, hE, kr⟩ := hrel
      by_cases hlt : k < n
      · have hlt' : (k : Int) < n := by omega
        obtain ⟨g, off, rfl, hc⟩ := HA.out (by omega)
        obtain ⟨x, hx⟩ : ∃ x, l[k]? = some x := ⟨l[k]'(by have := HN.out; omega), List.getElem?_eq_getElem _⟩
        obtain ⟨a0, a1, a2, a3, a4, a5⟩ := (hc k x hx).keep kr
        have HX := Lib.hid hx
        have hbx := HB.out x (List.mem_of_getElem? hx)
        obtain ⟨nm, ks, km, kt, kz, kw⟩ := x
        simp only at a0 a1 a2 a3 a4 a5 hbx
        clear hc hx
        go_wp2_with fail
        refine (szKind_any _ _ _ _ _ _ _ _ r0 r1 hbx).mono ?_
        rintro e1 w1 ⟨r2, rfl, u1, u2, u3, k1⟩
        by_cases hneg : r2 < 0
        · go_wp2_with fail
          go_ret
          exact ⟨_, rfl, by omega, by omega, fun h => absurd h (by omega), kr.trans k1⟩
        · have hs : Hid (smK ⟨nm, ks, km, kt, kz, kw⟩) := Lib.hid (by have := u3 (by omega); exact this)
          have HE2 : Hid (∀ j x, j < k + 1 → l[j]? = some x → smK x) := Lib.hid fun j x hj hx => by
            rcases Nat.lt_or_ge j k with hjk | hjk
            · exact hE.out j x hjk hx
            · obtain rfl : j = k := by omega
              rw [HX.out] at hx
              obtain rfl := Option.some.inj hx
              exact hs.out
          clear u3
          go_wp2_with fail
          go_roundw
          case rel => exact ⟨k + 1, r2, by omega, by go_num, rfl, by omega, by omega, HE2, kr.trans k1⟩
          case measure => simp [intOf]; omega
      · obtain rfl : k = n := by omega
        go_wp2_with fail
        go_ret
        refine ⟨_, rfl, by omega, by omega, fun _ => ?_, kr⟩
        rw [HP.out]
        refine ⟨by omega, fun x hx => ?_⟩
        obtain ⟨i, hi, rfl⟩ := List.mem_iff_getElem.1 hx
        exact hE.out i _ (by have := HN.out; omega) (List.getElem?_eq_getElem hi)
  · have a1' : (left - n) < 0 := by omega
    go_enter Tryz.func70, Tryz.ntmps70
    go_wp2_with fail
    go_ret
    exact ⟨_, rfl, by omega, by omega, fun h => absurd h (by omega), Kp.refl _⟩

/-- What an argument's rules are: two slices that read as lists, within Go's own bounds. -/
structure RulIn (w : World) (At Ak : Option Addr) (nt nk : Nat) (l : List Ter) (m : List Knd) : Prop where
  rt : RdT w At nt l
  rk : RdK w Ak nk m
  bt : nt ≤ 9223372036854775807
  bk : nk ≤ 9223372036854775807
  bc : ∀ x ∈ l, x.cost.length ≤ 9223372036854775807 ∧ x.name.size ≤ 9223372036854775807
  bn : ∀ x ∈ m, x.name.size ≤ 9223372036854775807
def rulSm (nt nk : Nat) (l : List Ter) (m : List Knd) : Prop := (nt ≤ 1048576 ∧ ∀ x ∈ l, smT x) ∧ (nk ≤ 1048576 ∧ ∀ x ∈ m, smK x)
theorem RulIn.at {w : World} {At Ak : Option Addr} {nt nk : Nat} {l : List Ter} {m : List Knd} (h : RulIn w At Ak nt nk l m) (s : rulSm nt nk l m) : RulAt w At Ak nt nk l m :=
  ⟨h.rt, h.rk, s.1.1, s.2.1, s.1.2, s.2.2⟩

set_option maxRecDepth 100000 in
set_option maxHeartbeats 1000000 in
theorem szRules_any (At Ak : Option Addr) (nt nk ct ck : Nat) (l : List Ter) (m : List Knd) (a b c d e : Int) (left : Int) (w : World) (h : RulIn w At Ak nt nk l m) (h0 : 0 ≤ left) (h1 : left ≤ 1048576) :
    Calls Tryz.prog 37 #[rv (.slice At nt ct) (.slice Ak nk ck) a b c d e, .int .i64 left] w (SzPost (rulSm nt nk l m) w) := by
  have HL := Lib.hid h
  have KA : Kp w (w.alloc (.cells #[.slice At nt ct, .slice Ak nk ck, .int .i64 a, .int .i64 b, .int .i64 c, .int .i64 d, .int .i64 e] 25)) := (Kp.refl w).alloc _
  have f1 : (w.alloc (.cells #[.slice At nt ct, .slice Ak nk ck, .int .i64 a, .int .i64 b, .int .i64 c, .int .i64 d, .int .i64 e] 25)).cell? ⟨w.heap.size, 1, none⟩ = some (.slice Ak nk ck) := by simp [go_sem]
  clear h
  go_enter Tryz.func37, Tryz.ntmps37
  go_wp2_with fail
  refine (szTerrainS_any _ _ _ l _ _ (HL.out.rt.keep KA) h0 h1 HL.out.bt HL.out.bc).mono ?_
  rintro e1 w1 ⟨r1, rfl, u1, u2, u3, k1⟩
  have f2 := k1.cell f1
  have H3 := Lib.hid u3
  clear u3
  by_cases hneg : r1 < 0
  · go_wp2_with fail
    go_ret
    exact ⟨_, rfl, by omega, by omega, fun h => absurd h (by omega), KA.trans k1⟩
  · go_wp2_with fail
    refine (szKindS_any _ _ _ m _ _ (HL.out.rk.keep (KA.trans k1)) (by omega) u1 HL.out.bk HL.out.bn).mono ?_
    rintro e2 w2 ⟨r2, rfl, v1, v2, v3, k2⟩
    have H4 := Lib.hid v3
    clear v3
    by_cases hneg2 : r2 < 0
    · go_wp2_with fail
      go_ret
      exact ⟨_, rfl, by omega, by omega, fun h => absurd h (by omega), (KA.trans k1).trans k2⟩
    · go_wp2_with fail
      go_ret
      exact ⟨_, rfl, by omega, by omega, fun _ => ⟨H3.out (by omega), H4.out (by omega)⟩, (KA.trans k1).trans k2⟩

end Go.Proofs.YtfohhofpfmbheaaGreatDoor

/-
  What a row's list says of named variables, cell by cell; worlds in which they lie.
-/
namespace Go.Proofs.YtfohhofpfmbheaaGreatDoor
open Go.ChangeShapes Go.WideShapes Go.ChangeAt Go.RowKit Go.Joins

theorem cellsInt : Tryz.prog.cellsOf 3 = 1 := by kernel_rfl
theorem laid_one {P : Program} {w : World} : ∀ {l : List (String × DataW Unit)} {ps : List MemPlace} {n : String} {d : DataW Unit}, DataW.LaidVars P w l ps → (n, d) ∈ l →
    ∃ g t cs fuel p, P.globalNamed n = some g ∧ (P.globals[g]?).map (·.type) = some t ∧ w.var? P n = some cs ∧ DataW.trod (fun _ => ()) P w 0 (fun _ => true) false fuel t cs.toList = some (d, p)
  | [], _, _, _, _, h => by cases h
  | (m, e) :: r, ps, n, d, hl, h => by
    obtain ⟨g, t, cs, fuel, p, q, h1, h2, h3, h4, hr, _⟩ := hl
    rcases List.mem_cons.1 h with he | he
    · obtain ⟨rfl, rfl⟩ := Prod.mk.injEq .. |>.mp he
      exact ⟨g, t, cs, fuel, p, h1, h2, h3, h4⟩
    · exact laid_one hr he

theorem spanFields : ∃ f0 f1 : Field, Tryz.prog.underlying 74 = some (.struct #[f0, f1]) ∧ f0.type = 3 ∧ f1.type = 3 ∧ f0.offset = 0 ∧ f1.offset = 1 :=
  ⟨_, _, Tryz.underlying74, rfl, rfl, rfl, rfl⟩
theorem span_of {W : World} {n : String} {g : Nat} {a b : Int} (hG : Tryz.prog.globalNamed n = some g) (hT : (Tryz.prog.globals[g]?).map (·.type) = some 74)
    (h : ∃ g t cs fuel p, Tryz.prog.globalNamed n = some g ∧ (Tryz.prog.globals[g]?).map (·.type) = some t ∧ W.var? Tryz.prog n = some cs ∧ DataW.trod (fun _ => ()) Tryz.prog W 0 (fun _ => true) false fuel t cs.toList = some (.agg [.lit (.int .i64 a), .lit (.int .i64 b)], p)) : SpanAt W g a b := by
  obtain ⟨g', t', cs, fuel, p, hg', ht', hvar, hd⟩ := h
  obtain rfl := Option.some.inj (hG.symm.trans hg')
  obtain rfl := Option.some.inj (hT.symm.trans ht')
  obtain ⟨f0, f1, hu, e0, e1, o0, o1⟩ := spanFields
  obtain ⟨y0, y1, n', hx, hlen, u0, u1⟩ := trod_struct2 hu hd
  rw [e0, o0, cellsInt] at u0
  rw [e1, o1, cellsInt] at u1
  obtain ⟨x, c0, rfl, _⟩ := DataW.trod_int Tryz.underlying3 u0
  obtain ⟨y, c1, rfl, _⟩ := DataW.trod_int Tryz.underlying3 u1
  simp only [Prod.mk.injEq, DataW.agg.injEq, List.cons.injEq, DataW.lit.injEq, Lit.int.injEq, true_and, and_true] at hx
  obtain ⟨⟨rfl, rfl⟩, _⟩ := hx
  have g0 : cs[0]? = some (.int .i64 a) := by
    have := congrArg (·[0]?) c0
    simpa [List.getElem?_take, List.getElem?_drop] using this
  have g1 : cs[1]? = some (.int .i64 b) := by
    have := congrArg (·[0]?) c1
    simpa [List.getElem?_take, List.getElem?_drop] using this
  exact ⟨(World.var?_cell hG hvar _).trans g0, (World.var?_cell hG hvar _).trans g1⟩

/-- The same world, a variable's cells laid. -/
noncomputable def setVar (w : World) (g : Nat) (xs : Array Value) : World :=
  { w with heap := w.heap.modify g fun
      | .cells _ t frozen => .cells xs t frozen
      | o => o }
theorem trodVars_len {H : Type} {enc : TypeId × Value → H} {P : Program} {w : World} {sp : Nat → Bool} : ∀ {ns : List String} {gs : List (DataW H)} {ps : List MemPlace}, DataW.TrodVars enc P w sp ns gs ps → gs.length = ns.length
  | [], [], _, _ => rfl
  | n :: ns, d :: ds, _, h => by
    obtain ⟨_, _, _, _, _, _, _, _, _, _, h, _⟩ := h
    simp [trodVars_len h]
  | [], _ :: _, _, h => h.elim
  | _ :: _, [], _, h => h.elim
end Go.Proofs.YtfohhofpfmbheaaGreatDoor

/-
  What the row's list says of the table of directions, cell by cell; and a world for the witness in which the table lies.
-/
namespace Go.Proofs.YtfohhofpfmbheaaGreatDoor
open Go.ChangeShapes Go.WideShapes Go.ChangeAt Go.RowKit Go.Joins

abbrev tabName : String := "loop.example/g00886/impl.directionSteps"
theorem tabG : Tryz.prog.globalNamed tabName = some 15 := by kernel_rfl
theorem tabT : (Tryz.prog.globals[15]?).map (·.type) = some 161 := by kernel_rfl
theorem cellsOff : Tryz.prog.cellsOf 123 = 2 := by kernel_rfl
theorem offFields : ∃ f0 f1 : Field, Tryz.prog.underlying 123 = some (.struct #[f0, f1]) ∧ f0.type = 3 ∧ f1.type = 3 ∧ f0.offset = 0 ∧ f1.offset = 1 :=
  ⟨_, _, Tryz.underlying123, rfl, rfl, rfl, rfl⟩

theorem tab_datum {H : Type} (d : Nat) (h : d < 6) :
    ([.agg [.lit (.int .i64 1), .lit (.int .i64 0)], .agg [.lit (.int .i64 1), .lit (.int .i64 (-1))], .agg [.lit (.int .i64 0), .lit (.int .i64 (-1))], .agg [.lit (.int .i64 (-1)), .lit (.int .i64 0)], .agg [.lit (.int .i64 (-1)), .lit (.int .i64 1)], .agg [.lit (.int .i64 0), .lit (.int .i64 1)]] : List (DataW H))[d]? =
      some (.agg [.lit (.int .i64 (dirQ d)), .lit (.int .i64 (dirR d))]) := by
  match d, h with
  | 0, _ => rfl
  | 1, _ => rfl
  | 2, _ => rfl
  | 3, _ => rfl
  | 4, _ => rfl
  | 5, _ => rfl

theorem tab_of_laid1 {W : World} (h : ∃ g t cs fuel p, Tryz.prog.globalNamed tabName = some g ∧ (Tryz.prog.globals[g]?).map (·.type) = some t ∧ W.var? Tryz.prog tabName = some cs ∧ DataW.trod (fun _ => ()) Tryz.prog W 0 (fun _ => true) false fuel t cs.toList = some (Rows.laid_loop_example_g00886_impl_directionSteps, p)) : Tab W := by
  obtain ⟨g', t', cs, fuel, p, hg', ht', hvar, hd⟩ := h
  obtain rfl := Option.some.inj (tabG.symm.trans hg')
  obtain rfl := Option.some.inj (tabT.symm.trans ht')
  obtain ⟨xs, m, _, hx, hl, hn, hi⟩ := DataW.trod_array Tryz.underlying161 hd
  have hxs : xs.map (·.1) = [.agg [.lit (.int .i64 1), .lit (.int .i64 0)], .agg [.lit (.int .i64 1), .lit (.int .i64 (-1))], .agg [.lit (.int .i64 0), .lit (.int .i64 (-1))], .agg [.lit (.int .i64 (-1)), .lit (.int .i64 0)], .agg [.lit (.int .i64 (-1)), .lit (.int .i64 1)], .agg [.lit (.int .i64 0), .lit (.int .i64 1)]] := by
    have := congrArg Prod.fst hx
    simp only [Rows.laid_loop_example_g00886_impl_directionSteps, DataW.agg.injEq] at this
    exact this.symm
  intro d hd6
  have h1 := hi d hd6
  rw [cellsOff] at h1
  have h2 : (xs.map (·.1))[d]? = some (.agg [.lit (.int .i64 (dirQ d)), .lit (.int .i64 (dirR d))]) := by rw [hxs]; exact tab_datum d hd6
  rw [List.getElem?_map, Option.map_eq_some_iff] at h2
  obtain ⟨y, hy, hy1⟩ := h2
  obtain ⟨f0, f1, hu, e0, e1, o0, o1⟩ := offFields
  obtain ⟨y0, y1, n, rfl, hlen, u0, u1⟩ := trod_struct2 hu (h1.trans hy)
  rw [e0, o0, cellsInt] at u0
  rw [e1, o1, cellsInt] at u1
  obtain ⟨a, c0, rfl, _⟩ := DataW.trod_int Tryz.underlying3 u0
  obtain ⟨b, c1, rfl, _⟩ := DataW.trod_int Tryz.underlying3 u1
  simp only [DataW.agg.injEq, List.cons.injEq, DataW.lit.injEq, Lit.int.injEq, true_and, and_true] at hy1
  obtain ⟨rfl, rfl⟩ := hy1
  have g0 : cs[d * 2]? = some (.int .i64 (dirQ d)) := by
    have := congrArg (·[0]?) c0
    simpa [List.getElem?_take, List.getElem?_drop] using this
  have g1 : cs[d * 2 + 1]? = some (.int .i64 (dirR d)) := by
    have := congrArg (·[0]?) c1
    simpa [List.getElem?_take, List.getElem?_drop] using this
  exact ⟨(World.var?_cell tabG hvar _).trans g0, (World.var?_cell tabG hvar _).trans g1⟩
theorem tab_of_laid {W : World} (h : laidMetH Tryz.prog [(tabName, Rows.laid_loop_example_g00886_impl_directionSteps)] W) : Tab W := by
  have h' : laidMet Tryz.prog [(tabName, Rows.laid_loop_example_g00886_impl_directionSteps)] W := h
  obtain ⟨ps, ⟨g', t', cs, fuel, p, q, hg', ht', hvar, hd, _, _⟩, _⟩ := h'
  exact tab_of_laid1 ⟨g', t', cs, fuel, p, hg', ht', hvar, hd⟩

/-- A world for the witness: the settled one, the table holding what its text lays. -/
noncomputable def laidWorld (os : Os) : World :=
  { World.holding Tryz.prog os ⟨#[], #[], []⟩ with heap := (World.holding Tryz.prog os ⟨#[], #[], []⟩).heap.modify 15 fun
      | .cells _ t frozen => .cells #[.int .i64 1, .int .i64 0, .int .i64 1, .int .i64 (-1), .int .i64 0, .int .i64 (-1), .int .i64 (-1), .int .i64 0, .int .i64 (-1), .int .i64 1, .int .i64 0, .int .i64 1] t frozen
      | o => o }
end Go.Proofs.YtfohhofpfmbheaaGreatDoor

/-
  Arguments that are structs, and slices of structs: their cells, read one by one.
-/
namespace Go.Proofs.YtfohhofpfmbheaaGreatDoor
open Go.ChangeShapes Go.WideShapes Go.ChangeAt Go.RowKit Go.Joins Go.Deep

/-- The cells of a struct whose fields take one cell each, read one by one. -/
theorem fields_of_trod {H : Type} {enc : TypeId × Value → H} {P : Program} {w : World} {base n0 fuel : Nat} {spare : Nat → Bool} {held : Bool} {t : TypeId} {fs : Array Field} {cs : List Value} {x : DataW H × List MemPlace}
    (hs : P.underlying t = some (.struct fs)) (hone : Go.Deep.oneCellFields P fs = true) (hn : fs.size = n0) (hl : cs.length = n0) (hf : DataW.trod enc P w base spare held fuel t cs = some x) :
    ∃ n : Nat, ∀ (j : Nat) (f : Field), fs[j]? = some f → ∃ c y, cs[j]? = some c ∧ DataW.trod enc P w base spare held n f.type [c] = some y := by
  obtain ⟨xs, n, _, _, _, hlen, hg⟩ := DataW.trod_struct hs hf
  refine ⟨n, fun j f hj => ?_⟩
  have hjl : j < fs.size := (Array.getElem?_eq_some_iff.1 hj).1
  obtain ⟨o, k⟩ := Go.Deep.hone_of hone j f hj
  have h1 := hg j f hj
  rw [o, k] at h1
  have e : (cs.drop j).take 1 = [cs[j]'(by omega)] := by
    rw [List.drop_eq_getElem_cons (by omega)]
    rfl
  rw [e] at h1
  exact ⟨_, _, List.getElem?_eq_getElem (by omega), h1.trans (List.getElem?_eq_getElem (by omega))⟩

theorem add_none' (b off k : Nat) : (⟨b, off, none⟩ : Addr).add k = ⟨b, off + k, none⟩ := by
  unfold Addr.add
  split
  · rename_i h
    simp_all
  · rfl
theorem RdI.shape {w : World} {v : Value} {l : List Int} (h : RdI w v l) : ∃ A c, v = .slice A l.length c := by
  obtain ⟨A, c, e, _⟩ := h
  exact ⟨A, c, e⟩

/-- A slice of structs of sz cells each reads as a list, where each element's cells do. -/
theorem rd_structs {α : Type} {H : Type} {enc : TypeId × Value → H} {W : World} {t e : TypeId} {sz fuel : Nat} {v : Value} {y : DataW H × List MemPlace} (At : Nat → Nat → α → Prop) (hsz : Tryz.prog.cellsOf e = sz)
    (ht : Tryz.prog.underlying t = some (.slice e)) (hf : DataW.trod enc Tryz.prog W 0 (fun _ => true) true fuel t [v] = some y)
    (one : ∀ (a : Addr) (fu : Nat) (cs : List Value) (x : DataW H × List MemPlace), cs.length = sz → (∀ j, j < sz → W.cell? (a.add j) = cs[j]?) → DataW.trod enc Tryz.prog W 0 (fun _ => true) true fu e cs = some x → a.spot = none ∧ ∃ z : α, At a.block a.off z) :
    ∃ (A : Option Addr) (n c : Nat) (l : List α), v = .slice A n c ∧ l.length = n ∧ n ≤ maxLen ∧ (0 < n → ∃ g off, A = some ⟨g, off, none⟩ ∧ ∀ i x, l[i]? = some x → At g (off + i * sz) x) := by
  rcases open_slice ht hf with ⟨hcs, _⟩ | ⟨a, len, cap, m, n, D, Pl, hcs, _, hl, hm, hmm, _, hi⟩
  · simp only [List.cons.injEq, and_true] at hcs
    exact ⟨none, 0, 0, [], hcs, rfl, by decide, fun h => absurd h (by omega)⟩
  · simp only [List.cons.injEq, and_true] at hcs
    have hmc : m = cap := by simpa using hmm
    have each : ∀ i, i < len → (a.add (i * sz)).spot = none ∧ ∃ z : α, At (a.add (i * sz)).block (a.add (i * sz)).off z := by
      intro i hil
      obtain ⟨cs', hc, ht'⟩ := hi i (by omega)
      rw [hsz] at hc
      obtain ⟨_, hcl, hat⟩ := World.cells?_some hc
      exact one _ _ cs' _ hcl (fun j hj => hat j hj) ht'
    rcases Nat.eq_zero_or_pos len with rfl | hpos
    · exact ⟨some a, 0, cap, [], hcs, rfl, by omega, fun h => absurd h (by omega)⟩
    · obtain ⟨b, off, spot⟩ := a
      have hspot : spot = none := by
        have := (each 0 hpos).1
        simpa [Addr.add] using this
      subst hspot
      let l : List α := (List.range len).attach.map fun i => (each i.1 (List.mem_range.1 i.2)).2.choose
      have hll : l.length = len := by simp [l]
      refine ⟨_, len, cap, l, hcs, hll, by omega, fun _ => ⟨b, off, rfl, fun i x hx => ?_⟩⟩
      have hil : i < len := by have := (List.getElem?_eq_some_iff.1 hx).1; omega
      have hs := (each i hil).2.choose_spec
      have key : ∀ (A : Addr) (z : α), A = ⟨b, off + i * sz, none⟩ → At A.block A.off z → At b (off + i * sz) z := by
        rintro _ _ rfl h
        exact h
      have hx' : x = (each i hil).2.choose := by
        obtain ⟨hi2, rfl⟩ := List.getElem?_eq_some_iff.1 hx
        simp [l]
      rw [hx']
      exact key _ _ (add_none' b off (i * sz)) hs

/-- An argument that is a struct whose fields take one cell each: the cell of each field reads as the field's type says. -/
theorem open_fields {H : Type} {enc : TypeId × Value → H} {P : Program} {w : World} {base b0 n0 : Nat} {spare : Nat → Bool} {held : Bool} {rc : Reach} {t : TypeId} {fs : Array Field} {v : Value} {d : DataW H} {p : List MemPlace}
    (hs : P.underlying t = some (.struct fs)) (hone : Go.Deep.oneCellFields P fs = true) (hC : P.cellsOf t = n0) (hn : fs.size = n0) (hv : Value.okWide P w rc b0 t v) (h : DataW.Trod enc P w base spare held t v d p) :
    ∃ (cs : List Value) (n : Nat), v = .agg cs.toArray ∧ cs.length = n0 ∧ ∀ (j : Nat) (f : Field), fs[j]? = some f → ∃ c y, cs[j]? = some c ∧ DataW.trod enc P w base spare held n f.type [c] = some y := by
  obtain ⟨⟨cs⟩, rfl, hsz⟩ := okWide_struct hs hv
  obtain ⟨fuel, hf⟩ := h
  obtain ⟨xs, n, _, _, _, hlen, hg⟩ := DataW.trod_struct hs hf
  have hcl : cs.length = n0 := hsz.trans hC
  refine ⟨cs, n, rfl, hcl, fun j f hj => ?_⟩
  have hjl : j < fs.size := (Array.getElem?_eq_some_iff.1 hj).1
  obtain ⟨o, k⟩ := Go.Deep.hone_of hone j f hj
  have h1 := hg j f hj
  rw [o, k] at h1
  have e : ((Value.agg cs.toArray).cells.toList.drop j).take 1 = [cs[j]'(by omega)] := by
    simp only [Value.cells, List.toList_toArray]
    rw [List.drop_eq_getElem_cons (by omega)]
    rfl
  rw [e] at h1
  exact ⟨_, _, List.getElem?_eq_getElem (by omega), h1.trans (List.getElem?_eq_getElem (by omega))⟩
end Go.Proofs.YtfohhofpfmbheaaGreatDoor

/-
  What every law on maps needs: the argument's lists, the copies of the map, the cells of the two boxes.
-/
namespace Go.Proofs.YtfohhofpfmbheaaGreatDoor
open Go.ChangeShapes Go.WideShapes Go.ChangeAt Go.RowKit Go.Joins

/-- What an argument's three lists are: slices that read as lists, of Go's own lengths and numbers. -/
structure Reads (w : World) (t r d : Value) (lt lr ld : List Int) : Prop where
  rt : RdI w t lt
  rr : RdI w r lr
  rd : RdI w d ld
  bt : lt.length ≤ 9223372036854775807
  br : lr.length ≤ 9223372036854775807
  bd : ld.length ≤ 9223372036854775807
  it : ∀ x ∈ lt, isI64 x
  ir : ∀ x ∈ lr, isI64 x
  id : ∀ x ∈ ld, isI64 x
theorem Reads.lists {w : World} {t r d : Value} {lt lr ld : List Int} (h : Reads w t r d lt lr ld) (hb : lt.length + lr.length + ld.length ≤ 1048576) : Lists w t r d lt lr ld :=
  ⟨h.rt, h.rr, h.rd, by omega, by omega, by omega, h.it, h.ir, h.id⟩
theorem Own3.lists {w w0 : World} {base : Nat} {t r d t0 r0 d0 : Value} {lt lr ld : List Int} (o : Own3 w base t r d lt lr ld) (h : Lists w0 t0 r0 d0 lt lr ld) : Lists w t r d lt lr ld :=
  ⟨o.ot.rd, o.or.rd, o.od.rd, h.bt, h.br, h.bd, h.it, h.ir, h.id⟩

theorem toMap_sl (W H : Int) (t r d : Value) (lt lr ld : List Int) (nt nr nd : Nat) (w : World) (hL : Lists w t r d lt lr ld) (h1 : lt.length = nt) (h2 : lr.length = nr) (h3 : ld.length = nd) :
    Calls Tryz.prog 42 #[mp W H t r d] w fun e w' => ∃ (A1 : Option Addr) (c1 : Nat) (A2 : Option Addr) (c2 : Nat) (A3 : Option Addr) (c3 : Nat), e = .returned (mp W H (.slice A1 nt c1) (.slice A2 nr c2) (.slice A3 nd c3)) ∧
      Own3 w' w.heap.size (.slice A1 nt c1) (.slice A2 nr c2) (.slice A3 nd c3) lt lr ld ∧ Kp w w' :=
  (toMap_any W H t r d lt lr ld w hL).mono fun e w' ⟨t', r', d', he, ho, hk⟩ => by
    obtain ⟨A1, c1, rfl⟩ := ho.ot.slice
    obtain ⟨A2, c2, rfl⟩ := ho.or.slice
    obtain ⟨A3, c3, rfl⟩ := ho.od.slice
    subst h1 h2 h3
    exact ⟨A1, c1, A2, c2, A3, c3, he, ho, hk⟩

theorem keep10 {W0 w w1 : World} {b b' : Nat} {v0 v1 v2 v3 v4 u0 u1 u2 u3 u4 : Value} (k : Kp w w1)
    (h : (w.cell? ⟨b, 0, none⟩ = some v0 ∧ w.cell? ⟨b, 1, none⟩ = some v1 ∧ w.cell? ⟨b, 2, none⟩ = some v2 ∧ w.cell? ⟨b, 3, none⟩ = some v3 ∧ w.cell? ⟨b, 4, none⟩ = some v4 ∧ Kp W0 w) ∧
      w.cell? ⟨b', 0, none⟩ = some u0 ∧ w.cell? ⟨b', 1, none⟩ = some u1 ∧ w.cell? ⟨b', 2, none⟩ = some u2 ∧ w.cell? ⟨b', 3, none⟩ = some u3 ∧ w.cell? ⟨b', 4, none⟩ = some u4 ∧ Kp W0 w) :
    (w1.cell? ⟨b, 0, none⟩ = some v0 ∧ w1.cell? ⟨b, 1, none⟩ = some v1 ∧ w1.cell? ⟨b, 2, none⟩ = some v2 ∧ w1.cell? ⟨b, 3, none⟩ = some v3 ∧ w1.cell? ⟨b, 4, none⟩ = some v4 ∧ Kp W0 w1) ∧
      w1.cell? ⟨b', 0, none⟩ = some u0 ∧ w1.cell? ⟨b', 1, none⟩ = some u1 ∧ w1.cell? ⟨b', 2, none⟩ = some u2 ∧ w1.cell? ⟨b', 3, none⟩ = some u3 ∧ w1.cell? ⟨b', 4, none⟩ = some u4 ∧ Kp W0 w1 :=
  ⟨keep5 k h.1, keep5 k h.2⟩
theorem drew10 {W0 w : World} {b b' : Nat} {v0 v1 v2 v3 v4 u0 u1 u2 u3 u4 : Value}
    (h : (w.cell? ⟨b, 0, none⟩ = some v0 ∧ w.cell? ⟨b, 1, none⟩ = some v1 ∧ w.cell? ⟨b, 2, none⟩ = some v2 ∧ w.cell? ⟨b, 3, none⟩ = some v3 ∧ w.cell? ⟨b, 4, none⟩ = some v4 ∧ Kp W0 w) ∧
      w.cell? ⟨b', 0, none⟩ = some u0 ∧ w.cell? ⟨b', 1, none⟩ = some u1 ∧ w.cell? ⟨b', 2, none⟩ = some u2 ∧ w.cell? ⟨b', 3, none⟩ = some u3 ∧ w.cell? ⟨b', 4, none⟩ = some u4 ∧ Kp W0 w) :
    (w.drew.cell? ⟨b, 0, none⟩ = some v0 ∧ w.drew.cell? ⟨b, 1, none⟩ = some v1 ∧ w.drew.cell? ⟨b, 2, none⟩ = some v2 ∧ w.drew.cell? ⟨b, 3, none⟩ = some v3 ∧ w.drew.cell? ⟨b, 4, none⟩ = some v4 ∧ Kp W0 w.drew) ∧
      w.drew.cell? ⟨b', 0, none⟩ = some u0 ∧ w.drew.cell? ⟨b', 1, none⟩ = some u1 ∧ w.drew.cell? ⟨b', 2, none⟩ = some u2 ∧ w.drew.cell? ⟨b', 3, none⟩ = some u3 ∧ w.drew.cell? ⟨b', 4, none⟩ = some u4 ∧ Kp W0 w.drew :=
  ⟨drew5 h.1, drew5 h.2⟩
/-- A box for a second map behind the first. -/
theorem box10 {W0 w : World} {b : Nat} {v0 v1 v2 v3 v4 : Value} (u0 u1 u2 u3 u4 : Value) (T : TypeId)
    (h : w.cell? ⟨b, 0, none⟩ = some v0 ∧ w.cell? ⟨b, 1, none⟩ = some v1 ∧ w.cell? ⟨b, 2, none⟩ = some v2 ∧ w.cell? ⟨b, 3, none⟩ = some v3 ∧ w.cell? ⟨b, 4, none⟩ = some v4 ∧ Kp W0 w) :
    ((w.alloc (.cells #[u0, u1, u2, u3, u4] T)).cell? ⟨b, 0, none⟩ = some v0 ∧ (w.alloc (.cells #[u0, u1, u2, u3, u4] T)).cell? ⟨b, 1, none⟩ = some v1 ∧ (w.alloc (.cells #[u0, u1, u2, u3, u4] T)).cell? ⟨b, 2, none⟩ = some v2 ∧ (w.alloc (.cells #[u0, u1, u2, u3, u4] T)).cell? ⟨b, 3, none⟩ = some v3 ∧ (w.alloc (.cells #[u0, u1, u2, u3, u4] T)).cell? ⟨b, 4, none⟩ = some v4 ∧ Kp W0 (w.alloc (.cells #[u0, u1, u2, u3, u4] T))) ∧
      (w.alloc (.cells #[u0, u1, u2, u3, u4] T)).cell? ⟨w.heap.size, 0, none⟩ = some u0 ∧ (w.alloc (.cells #[u0, u1, u2, u3, u4] T)).cell? ⟨w.heap.size, 1, none⟩ = some u1 ∧ (w.alloc (.cells #[u0, u1, u2, u3, u4] T)).cell? ⟨w.heap.size, 2, none⟩ = some u2 ∧ (w.alloc (.cells #[u0, u1, u2, u3, u4] T)).cell? ⟨w.heap.size, 3, none⟩ = some u3 ∧ (w.alloc (.cells #[u0, u1, u2, u3, u4] T)).cell? ⟨w.heap.size, 4, none⟩ = some u4 ∧ Kp W0 (w.alloc (.cells #[u0, u1, u2, u3, u4] T)) := by
  obtain ⟨n0, n1, n2, n3, n4, n5⟩ := new5 w u0 u1 u2 u3 u4 T
  exact ⟨keep5 n5 h, n0, n1, n2, n3, n4, h.2.2.2.2.2.trans n5⟩

theorem szMap_s (W H : Int) (At Ar Ad : Option Addr) (nt ct nr cr nd cd : Nat) (S0 : Int) (w : World) (h1 : nt ≤ 9223372036854775807) (h2 : nr ≤ 9223372036854775807) (h3 : nd ≤ 9223372036854775807) (hs : szTot nt nr nd = S0) :
    Calls Tryz.prog 38 #[mp W H (.slice At nt ct) (.slice Ar nr cr) (.slice Ad nd cd), .int .i64 1048576] w fun e w' => e = .returned (.int .i64 S0) ∧ Kp w w' := by
  rw [← hs]
  exact szMap_any W H At Ar Ad nt ct nr cr nd cd w h1 h2 h3

theorem cellsMap : Tryz.prog.cellsOf 28 = 5 := by kernel_rfl
theorem five {α : Type} {l : List α} (h : l.length = 5) {a b c d e : α} (h0 : l[0]? = some a) (h1 : l[1]? = some b) (h2 : l[2]? = some c) (h3 : l[3]? = some d) (h4 : l[4]? = some e) : l = [a, b, c, d, e] := by
  match l, h with
  | [x0, x1, x2, x3, x4], _ => simp_all

set_option maxRecDepth 100000 in
/-- An argument of type Map: two numbers and three lists. -/
theorem open_map5 {H : Type} {enc : TypeId × Value → H} {W : World} {base : Nat} {v : Value} {d : DataW H} {p : List MemPlace}
    (hv : Value.okWide Tryz.prog W .any base 28 v) (h : DataW.Trod enc Tryz.prog W 0 (fun _ => true) true 28 v d p) :
    ∃ (wd ht : Int) (t r e : Value) (lt lr ld : List Int), v = mp wd ht t r e ∧ Reads W t r e lt lr ld := by
  obtain ⟨cs, n, rfl, hl, hf⟩ := open_fields Tryz.underlying28 (by kernel_rfl) cellsMap rfl hv h
  obtain ⟨c0, y0, q0, h0⟩ := hf 0 _ rfl
  obtain ⟨c1, y1, q1, h1⟩ := hf 1 _ rfl
  obtain ⟨c2, y2, q2, h2⟩ := hf 2 _ rfl
  obtain ⟨c3, y3, q3, h3⟩ := hf 3 _ rfl
  obtain ⟨c4, y4, q4, h4⟩ := hf 4 _ rfl
  obtain rfl := five hl q0 q1 q2 q3 q4
  obtain ⟨a, e0, rfl, wa⟩ := DataW.trod_int Tryz.underlying3 h0
  obtain ⟨b, e1, rfl, wb⟩ := DataW.trod_int Tryz.underlying3 h1
  simp only [List.cons.injEq, and_true] at e0 e1
  subst e0 e1
  obtain ⟨lt, r1, r2, r3⟩ := rdB_of_trod h2
  obtain ⟨lr, s1, s2, s3⟩ := rdB_of_trod h3
  obtain ⟨ld, t1, t2, t3⟩ := rdB_of_trod h4
  exact ⟨a, b, c2, c3, c4, lt, lr, ld, rfl, ⟨r1, s1, t1, r2, s2, t2, r3, s3, t3⟩⟩

end Go.Proofs.YtfohhofpfmbheaaGreatDoor

/-
  An argument of type Rules reads as two lists and five numbers.
-/
namespace Go.Proofs.YtfohhofpfmbheaaGreatDoor
open Go.ChangeShapes Go.WideShapes Go.ChangeAt Go.RowKit Go.Joins Go.Deep

theorem RulIn.keep {w w' : World} {At Ak : Option Addr} {nt nk : Nat} {l : List Ter} {m : List Knd} (h : RulIn w At Ak nt nk l m) (k : Kp w w') : RulIn w' At Ak nt nk l m :=
  ⟨h.rt.keep k, h.rk.keep k, h.bt, h.bk, h.bc, h.bn⟩

theorem cellsTer : Tryz.prog.cellsOf 112 = 5 := by kernel_rfl
theorem cellsKnd : Tryz.prog.cellsOf 114 = 6 := by kernel_rfl
theorem cellsRul : Tryz.prog.cellsOf 25 = 7 := by kernel_rfl

set_option maxRecDepth 100000 in
theorem rdT_of_trod {H : Type} {enc : TypeId × Value → H} {W : World} {v : Value} {n : Nat} {y : DataW H × List MemPlace}
    (hf : DataW.trod enc Tryz.prog W 0 (fun _ => true) true n 22 [v] = some y) : ∃ (A : Option Addr) (n c : Nat) (l : List Ter), v = .slice A n c ∧ RdT W A n l ∧ n ≤ 9223372036854775807 ∧ (∀ x ∈ l, x.cost.length ≤ 9223372036854775807 ∧ x.name.size ≤ 9223372036854775807) ∧ ∀ x ∈ l, ∀ z ∈ x.cost, -9223372036854775808 ≤ z ∧ z ≤ 9223372036854775807 := by
  obtain ⟨A, n, c, l, rfl, hl, hm, hr⟩ := rd_structs (α := Ter) (fun g o x => TerAt W g o x ∧ (x.cost.length ≤ 9223372036854775807 ∧ x.name.size ≤ 9223372036854775807) ∧ ∀ z ∈ x.cost, -9223372036854775808 ≤ z ∧ z ≤ 9223372036854775807) cellsTer Tryz.underlying22 hf (fun a fu cs x hcl hat hx => by
    obtain ⟨k, hk⟩ := fields_of_trod Tryz.underlying112 (by kernel_rfl) rfl hcl hx
    obtain ⟨c0, y0, q0, h0⟩ := hk 0 _ rfl
    obtain ⟨c1, y1, q1, h1⟩ := hk 1 _ rfl
    obtain ⟨c2, y2, q2, h2⟩ := hk 2 _ rfl
    obtain ⟨c3, y3, q3, h3⟩ := hk 3 _ rfl
    obtain ⟨c4, y4, q4, h4⟩ := hk 4 _ rfl
    obtain ⟨s, e0, _, ws⟩ := DataW.trod_string Tryz.underlying9 h0
    obtain ⟨lc, r1, r2, r3⟩ := rdB_of_trod h1
    obtain ⟨z2, e2, _, w2⟩ := DataW.trod_int Tryz.underlying3 h2
    obtain ⟨z3, e3, _, w3⟩ := DataW.trod_int Tryz.underlying3 h3
    obtain ⟨z4, e4, _⟩ := DataW.trod_bool Tryz.underlying4 h4
    simp only [List.cons.injEq, and_true] at e0 e2 e3 e4
    subst e0 e2 e3 e4
    have g0 := (hat 0 (by omega)).trans q0
    have g1 := (hat 1 (by omega)).trans q1
    have g2 := (hat 2 (by omega)).trans q2
    have g3 := (hat 3 (by omega)).trans q3
    have g4 := (hat 4 (by omega)).trans q4
    obtain ⟨b, off, spot⟩ := a
    have hspot : spot = none := by
      have := World.cell?_spot g0
      simpa [Addr.add] using this
    subst hspot
    rw [add_none'] at g0 g1 g2 g3 g4
    obtain ⟨A1, c1', rfl⟩ := r1.shape
    unfold maxLen at ws
    exact ⟨rfl, ⟨s, lc, z2, z3, z4⟩, ⟨A1, c1', ⟨g0, g1, g2, g3, g4⟩, r1⟩, ⟨r2, by simp only; omega⟩, r3⟩)
  have mem : ∀ x ∈ l, ∃ g o, TerAt W g o x ∧ (x.cost.length ≤ 9223372036854775807 ∧ x.name.size ≤ 9223372036854775807) ∧ ∀ z ∈ x.cost, -9223372036854775808 ≤ z ∧ z ≤ 9223372036854775807 := fun x hx => by
    obtain ⟨i, hi, rfl⟩ := List.mem_iff_getElem.1 hx
    obtain ⟨g, off, rfl, hc⟩ := hr (by omega)
    exact ⟨_, _, hc i _ (List.getElem?_eq_getElem hi)⟩
  unfold maxLen at hm
  refine ⟨A, n, c, l, rfl, ⟨hl, fun h0 => ?_⟩, by omega, fun x hx => ?_, fun x hx => ?_⟩
  · obtain ⟨g, off, e, hc⟩ := hr h0
    exact ⟨g, off, e, fun i x hx => (hc i x hx).1⟩
  · obtain ⟨_, _, _, h, _⟩ := mem x hx
    exact h
  · obtain ⟨_, _, _, _, h⟩ := mem x hx
    exact h

set_option maxRecDepth 100000 in
theorem rdK_of_trod {H : Type} {enc : TypeId × Value → H} {W : World} {v : Value} {n : Nat} {y : DataW H × List MemPlace}
    (hf : DataW.trod enc Tryz.prog W 0 (fun _ => true) true n 23 [v] = some y) : ∃ (A : Option Addr) (n c : Nat) (l : List Knd), v = .slice A n c ∧ RdK W A n l ∧ n ≤ 9223372036854775807 ∧ ∀ x ∈ l, x.name.size ≤ 9223372036854775807 := by
  obtain ⟨A, n, c, l, rfl, hl, hm, hr⟩ := rd_structs (α := Knd) (fun g o x => KndAt W g o x ∧ x.name.size ≤ 9223372036854775807) cellsKnd Tryz.underlying23 hf (fun a fu cs x hcl hat hx => by
    obtain ⟨k, hk⟩ := fields_of_trod Tryz.underlying114 (by kernel_rfl) rfl hcl hx
    obtain ⟨c0, y0, q0, h0⟩ := hk 0 _ rfl
    obtain ⟨c1, y1, q1, h1⟩ := hk 1 _ rfl
    obtain ⟨c2, y2, q2, h2⟩ := hk 2 _ rfl
    obtain ⟨c3, y3, q3, h3⟩ := hk 3 _ rfl
    obtain ⟨c4, y4, q4, h4⟩ := hk 4 _ rfl
    obtain ⟨c5, y5, q5, h5⟩ := hk 5 _ rfl
    obtain ⟨s, e0, _, ws⟩ := DataW.trod_string Tryz.underlying9 h0
    obtain ⟨z1, e1, _, w1⟩ := DataW.trod_int Tryz.underlying3 h1
    obtain ⟨z2, e2, _, w2⟩ := DataW.trod_int Tryz.underlying3 h2
    obtain ⟨z3, e3, _, w3⟩ := DataW.trod_int Tryz.underlying3 h3
    obtain ⟨z4, e4, _⟩ := DataW.trod_bool Tryz.underlying4 h4
    obtain ⟨z5, e5, _, w5⟩ := DataW.trod_int Tryz.underlying3 h5
    simp only [List.cons.injEq, and_true] at e0 e1 e2 e3 e4 e5
    subst e0 e1 e2 e3 e4 e5
    have g0 := (hat 0 (by omega)).trans q0
    have g1 := (hat 1 (by omega)).trans q1
    have g2 := (hat 2 (by omega)).trans q2
    have g3 := (hat 3 (by omega)).trans q3
    have g4 := (hat 4 (by omega)).trans q4
    have g5 := (hat 5 (by omega)).trans q5
    obtain ⟨b, off, spot⟩ := a
    have hspot : spot = none := by
      have := World.cell?_spot g0
      simpa [Addr.add] using this
    subst hspot
    rw [add_none'] at g0 g1 g2 g3 g4 g5
    unfold maxLen at ws
    exact ⟨rfl, ⟨s, z1, z2, z3, z4, z5⟩, ⟨g0, g1, g2, g3, g4, g5⟩, by simp only; omega⟩)
  unfold maxLen at hm
  refine ⟨A, n, c, l, rfl, ⟨hl, fun h0 => ?_⟩, by omega, fun x hx => ?_⟩
  · obtain ⟨g, off, e, hc⟩ := hr h0
    exact ⟨g, off, e, fun i x hx => (hc i x hx).1⟩
  · obtain ⟨i, hi, rfl⟩ := List.mem_iff_getElem.1 hx
    obtain ⟨g, off, rfl, hc⟩ := hr (by omega)
    exact (hc i _ (List.getElem?_eq_getElem hi)).2

theorem seven {α : Type} {l : List α} (h : l.length = 7) {a b c d e f g : α} (h0 : l[0]? = some a) (h1 : l[1]? = some b) (h2 : l[2]? = some c) (h3 : l[3]? = some d) (h4 : l[4]? = some e) (h5 : l[5]? = some f) (h6 : l[6]? = some g) : l = [a, b, c, d, e, f, g] := by
  match l, h with
  | [x0, x1, x2, x3, x4, x5, x6], _ => simp_all

set_option maxRecDepth 100000 in
/-- Seven cells that read as rules. -/
theorem rules_cells {H : Type} {enc : TypeId × Value → H} {W : World} {cs : List Value} {n : Nat} (hl : cs.length = 7)
    (hf : ∀ (j : Nat) (f : Field), (match Tryz.prog.underlying 25 with | some (.struct fs) => fs | _ => #[])[j]? = some f → ∃ c y, cs[j]? = some c ∧ DataW.trod enc Tryz.prog W 0 (fun _ => true) true n f.type [c] = some y) :
    ∃ (At Ak : Option Addr) (nt nk ct ck : Nat) (l : List Ter) (m : List Knd) (a b c d e : Int), cs = [.slice At nt ct, .slice Ak nk ck, .int .i64 a, .int .i64 b, .int .i64 c, .int .i64 d, .int .i64 e] ∧ RulIn W At Ak nt nk l m ∧ ∀ x ∈ l, ∀ z ∈ x.cost, -9223372036854775808 ≤ z ∧ z ≤ 9223372036854775807 := by
  rw [Tryz.underlying25] at hf
  obtain ⟨c0, y0, q0, h0⟩ := hf 0 _ rfl
  obtain ⟨c1, y1, q1, h1⟩ := hf 1 _ rfl
  obtain ⟨c2, y2, q2, h2⟩ := hf 2 _ rfl
  obtain ⟨c3, y3, q3, h3⟩ := hf 3 _ rfl
  obtain ⟨c4, y4, q4, h4⟩ := hf 4 _ rfl
  obtain ⟨c5, y5, q5, h5⟩ := hf 5 _ rfl
  obtain ⟨c6, y6, q6, h6⟩ := hf 6 _ rfl
  obtain rfl := seven hl q0 q1 q2 q3 q4 q5 q6
  obtain ⟨At, nt, ct, l, rfl, r1, r2, r3, r4⟩ := rdT_of_trod h0
  obtain ⟨Ak, nk, ck, m, rfl, s1, s2, s3⟩ := rdK_of_trod h1
  obtain ⟨a, e2, _, _⟩ := DataW.trod_int Tryz.underlying3 h2
  obtain ⟨b, e3, _, _⟩ := DataW.trod_int Tryz.underlying3 h3
  obtain ⟨c, e4, _, _⟩ := DataW.trod_int Tryz.underlying3 h4
  obtain ⟨d, e5, _, _⟩ := DataW.trod_int Tryz.underlying3 h5
  obtain ⟨e, e6, _, _⟩ := DataW.trod_int Tryz.underlying3 h6
  simp only [List.cons.injEq, and_true] at e2 e3 e4 e5 e6
  subst e2 e3 e4 e5 e6
  exact ⟨At, Ak, nt, nk, ct, ck, l, m, a, b, c, d, e, rfl, ⟨r1, s1, r2, s2, r3, s3⟩, r4⟩

set_option maxRecDepth 100000 in
/-- An argument of type Rules. -/
theorem open_rules {H : Type} {enc : TypeId × Value → H} {W : World} {base : Nat} {v : Value} {d : DataW H} {p : List MemPlace}
    (hv : Value.okWide Tryz.prog W .any base 25 v) (h : DataW.Trod enc Tryz.prog W 0 (fun _ => true) true 25 v d p) :
    ∃ (At Ak : Option Addr) (nt nk ct ck : Nat) (l : List Ter) (m : List Knd) (a b c d e : Int), v = rv (.slice At nt ct) (.slice Ak nk ck) a b c d e ∧ RulIn W At Ak nt nk l m ∧ ∀ x ∈ l, ∀ z ∈ x.cost, -9223372036854775808 ≤ z ∧ z ≤ 9223372036854775807 := by
  obtain ⟨cs, n, rfl, hl, hf⟩ := open_fields Tryz.underlying25 (by kernel_rfl) cellsRul rfl hv h
  obtain ⟨At, Ak, nt, nk, ct, ck, l, m, a, b, c, d, e, rfl, h1, h2⟩ := rules_cells (n := n) hl (by rw [Tryz.underlying25]; exact hf)
  exact ⟨At, Ak, nt, nk, ct, ck, l, m, a, b, c, d, e, rfl, h1, h2⟩

end Go.Proofs.YtfohhofpfmbheaaGreatDoor

/-
  The laws' functions on boards: sizes, copies in memory of their own, the comparison of two that hold the same; an argument of type Board. Nothing that was there is changed.
-/
namespace Go.Proofs.YtfohhofpfmbheaaGreatDoor
open Go.ChangeShapes Go.WideShapes Go.ChangeAt Go.RowKit Go.Joins Go.Deep

def mapSm (lt lr ld : List Int) : Prop := lt.length ≤ 1048576 ∧ lr.length ≤ 1048576 ∧ ld.length ≤ 1048576
theorem Reads.lists' {w : World} {t r d : Value} {lt lr ld : List Int} (h : Reads w t r d lt lr ld) (s : mapSm lt lr ld) : Lists w t r d lt lr ld :=
  ⟨h.rt, h.rr, h.rd, s.1, s.2.1, s.2.2, h.it, h.ir, h.id⟩
theorem Reads.keep {w w' : World} {t r d : Value} {lt lr ld : List Int} (h : Reads w t r d lt lr ld) (k : Kp w w') : Reads w' t r d lt lr ld :=
  ⟨h.rt.keep k, h.rr.keep k, h.rd.keep k, h.bt, h.br, h.bd, h.it, h.ir, h.id⟩

set_option maxHeartbeats 1000000 in
theorem szMap_gen (W H : Int) (At Ar Ad : Option Addr) (nt ct nr cr nd cd : Nat) (left : Int) (w : World) (h0 : 0 ≤ left) (hL : left ≤ 1048576) (h1 : nt ≤ 9223372036854775807) (h2 : nr ≤ 9223372036854775807) (h3 : nd ≤ 9223372036854775807) :
    Calls Tryz.prog 38 #[mp W H (.slice At nt ct) (.slice Ar nr cr) (.slice Ad nd cd), .int .i64 left] w (SzPost (nt ≤ 1048576 ∧ nr ≤ 1048576 ∧ nd ≤ 1048576) w) := by
  by_cases a1 : (nt : Int) ≤ left
  · by_cases a2 : (nr : Int) ≤ left - nt
    · by_cases a3 : (nd : Int) ≤ left - nt - nr
      · go_enter Tryz.func38, Tryz.ntmps38
        go_wp2_with fail
        refine (szIntS_yes _ _ _ _ _ (by omega) (by omega) (by omega)).mono ?_
        rintro e1 w1 ⟨rfl, rfl⟩
        go_wp2_with fail
        refine (szIntS_yes _ _ _ _ _ (by omega) (by omega) (by omega)).mono ?_
        rintro e1 w1 ⟨rfl, rfl⟩
        go_wp2_with fail
        refine (szIntS_yes _ _ _ _ _ (by omega) (by omega) (by omega)).mono ?_
        rintro e1 w1 ⟨rfl, rfl⟩
        go_wp2_with fail
        go_ret
        exact ⟨_, rfl, by omega, by omega, fun _ => ⟨by omega, by omega, by omega⟩, (Kp.refl _).alloc _⟩
      · go_enter Tryz.func38, Tryz.ntmps38
        go_wp2_with fail
        refine (szIntS_yes _ _ _ _ _ (by omega) (by omega) (by omega)).mono ?_
        rintro e1 w1 ⟨rfl, rfl⟩
        go_wp2_with fail
        refine (szIntS_yes _ _ _ _ _ (by omega) (by omega) (by omega)).mono ?_
        rintro e1 w1 ⟨rfl, rfl⟩
        go_wp2_with fail
        refine (szIntS_no _ _ _ _ _ (by omega) (by omega) (by omega) (by omega)).mono ?_
        rintro e1 w1 ⟨rfl, rfl⟩
        go_wp2_with fail
        go_ret
        exact ⟨_, rfl, by omega, by omega, fun h => absurd h (by omega), (Kp.refl _).alloc _⟩
    · go_enter Tryz.func38, Tryz.ntmps38
      go_wp2_with fail
      refine (szIntS_yes _ _ _ _ _ (by omega) (by omega) (by omega)).mono ?_
      rintro e1 w1 ⟨rfl, rfl⟩
      go_wp2_with fail
      refine (szIntS_no _ _ _ _ _ (by omega) (by omega) (by omega) (by omega)).mono ?_
      rintro e1 w1 ⟨rfl, rfl⟩
      go_wp2_with fail
      go_ret
      exact ⟨_, rfl, by omega, by omega, fun h => absurd h (by omega), (Kp.refl _).alloc _⟩
  · go_enter Tryz.func38, Tryz.ntmps38
    go_wp2_with fail
    refine (szIntS_no _ _ _ _ _ (by omega) (by omega) (by omega) (by omega)).mono ?_
    rintro e1 w1 ⟨rfl, rfl⟩
    go_wp2_with fail
    go_ret
    exact ⟨_, rfl, by omega, by omega, fun h => absurd h (by omega), (Kp.refl _).alloc _⟩

/-- What an argument's board is: rules and three lists, within Go's own bounds. -/
structure BrdIn (w : World) (At Ak : Option Addr) (nt nk : Nat) (l : List Ter) (m : List Knd) (x r y : Value) (lt lr ld : List Int) : Prop where
  R : RulIn w At Ak nt nk l m
  L : Reads w x r y lt lr ld
theorem BrdIn.keep {w w' : World} {At Ak : Option Addr} {nt nk : Nat} {l : List Ter} {m : List Knd} {x r y : Value} {lt lr ld : List Int} (h : BrdIn w At Ak nt nk l m x r y lt lr ld) (k : Kp w w') : BrdIn w' At Ak nt nk l m x r y lt lr ld :=
  ⟨h.R.keep k, h.L.keep k⟩
def brdSm (nt nk : Nat) (l : List Ter) (m : List Knd) (lt lr ld : List Int) : Prop := rulSm nt nk l m ∧ mapSm lt lr ld
theorem BrdIn.at {w : World} {At Ak : Option Addr} {nt nk : Nat} {l : List Ter} {m : List Knd} {x r y : Value} {lt lr ld : List Int} (h : BrdIn w At Ak nt nk l m x r y lt lr ld) (s : brdSm nt nk l m lt lr ld) : BrdAt w At Ak nt nk l m x r y lt lr ld :=
  ⟨h.R.at s.1, h.L.lists' s.2⟩

set_option maxRecDepth 100000 in
set_option maxHeartbeats 4000000 in
theorem szBoard_any (At Ak : Option Addr) (nt nk ct ck : Nat) (l : List Ter) (m : List Knd) (a b c d e W H : Int) (x r y : Value) (lt lr ld : List Int) (left : Int) (w : World) (h : BrdIn w At Ak nt nk l m x r y lt lr ld) (h0 : 0 ≤ left) (hL : left ≤ 1048576) :
    Calls Tryz.prog 11 #[bv (.slice At nt ct) (.slice Ak nk ck) a b c d e W H x r y, .int .i64 left] w (SzPost (brdSm nt nk l m lt lr ld) w) := by
  have KA : Kp w (w.alloc (.cells #[.slice At nt ct, .slice Ak nk ck, .int .i64 a, .int .i64 b, .int .i64 c, .int .i64 d, .int .i64 e, .int .i64 W, .int .i64 H, x, r, y] 30)) := (Kp.refl w).alloc _
  have s0 : (w.alloc (.cells #[.slice At nt ct, .slice Ak nk ck, .int .i64 a, .int .i64 b, .int .i64 c, .int .i64 d, .int .i64 e, .int .i64 W, .int .i64 H, x, r, y] 30)).cell? ⟨w.heap.size, 0, none⟩ = some (.slice At nt ct) ∧ (w.alloc (.cells #[.slice At nt ct, .slice Ak nk ck, .int .i64 a, .int .i64 b, .int .i64 c, .int .i64 d, .int .i64 e, .int .i64 W, .int .i64 H, x, r, y] 30)).cell? ⟨w.heap.size, 1, none⟩ = some (.slice Ak nk ck) ∧ (w.alloc (.cells #[.slice At nt ct, .slice Ak nk ck, .int .i64 a, .int .i64 b, .int .i64 c, .int .i64 d, .int .i64 e, .int .i64 W, .int .i64 H, x, r, y] 30)).cell? ⟨w.heap.size, 2, none⟩ = some (.int .i64 a) ∧ (w.alloc (.cells #[.slice At nt ct, .slice Ak nk ck, .int .i64 a, .int .i64 b, .int .i64 c, .int .i64 d, .int .i64 e, .int .i64 W, .int .i64 H, x, r, y] 30)).cell? ⟨w.heap.size, 3, none⟩ = some (.int .i64 b) ∧ (w.alloc (.cells #[.slice At nt ct, .slice Ak nk ck, .int .i64 a, .int .i64 b, .int .i64 c, .int .i64 d, .int .i64 e, .int .i64 W, .int .i64 H, x, r, y] 30)).cell? ⟨w.heap.size, 4, none⟩ = some (.int .i64 c) ∧ (w.alloc (.cells #[.slice At nt ct, .slice Ak nk ck, .int .i64 a, .int .i64 b, .int .i64 c, .int .i64 d, .int .i64 e, .int .i64 W, .int .i64 H, x, r, y] 30)).cell? ⟨w.heap.size, 5, none⟩ = some (.int .i64 d) ∧ (w.alloc (.cells #[.slice At nt ct, .slice Ak nk ck, .int .i64 a, .int .i64 b, .int .i64 c, .int .i64 d, .int .i64 e, .int .i64 W, .int .i64 H, x, r, y] 30)).cell? ⟨w.heap.size, 6, none⟩ = some (.int .i64 e) ∧ (w.alloc (.cells #[.slice At nt ct, .slice Ak nk ck, .int .i64 a, .int .i64 b, .int .i64 c, .int .i64 d, .int .i64 e, .int .i64 W, .int .i64 H, x, r, y] 30)).cell? ⟨w.heap.size, 7, none⟩ = some (.int .i64 W) ∧ (w.alloc (.cells #[.slice At nt ct, .slice Ak nk ck, .int .i64 a, .int .i64 b, .int .i64 c, .int .i64 d, .int .i64 e, .int .i64 W, .int .i64 H, x, r, y] 30)).cell? ⟨w.heap.size, 8, none⟩ = some (.int .i64 H) ∧ (w.alloc (.cells #[.slice At nt ct, .slice Ak nk ck, .int .i64 a, .int .i64 b, .int .i64 c, .int .i64 d, .int .i64 e, .int .i64 W, .int .i64 H, x, r, y] 30)).cell? ⟨w.heap.size, 9, none⟩ = some (x) ∧ (w.alloc (.cells #[.slice At nt ct, .slice Ak nk ck, .int .i64 a, .int .i64 b, .int .i64 c, .int .i64 d, .int .i64 e, .int .i64 W, .int .i64 H, x, r, y] 30)).cell? ⟨w.heap.size, 10, none⟩ = some (r) ∧ (w.alloc (.cells #[.slice At nt ct, .slice Ak nk ck, .int .i64 a, .int .i64 b, .int .i64 c, .int .i64 d, .int .i64 e, .int .i64 W, .int .i64 H, x, r, y] 30)).cell? ⟨w.heap.size, 11, none⟩ = some (y) := ⟨by simp [go_sem], by simp [go_sem], by simp [go_sem], by simp [go_sem], by simp [go_sem], by simp [go_sem], by simp [go_sem], by simp [go_sem], by simp [go_sem], by simp [go_sem], by simp [go_sem], by simp [go_sem]⟩
  have HR := Lib.hid (h.R.keep KA)
  have bt := h.L.bt
  have br := h.L.br
  have bd := h.L.bd
  have C2 : Hid (∀ (left : Int) (w : World), 0 ≤ left → left ≤ 1048576 → Calls Tryz.prog 38 #[mp W H x r y, .int .i64 left] w (SzPost (mapSm lt lr ld) w)) := Lib.hid fun left w h0 h1 => by
    obtain ⟨A1, c1, rfl⟩ := h.L.rt.shape
    obtain ⟨A2, c2, rfl⟩ := h.L.rr.shape
    obtain ⟨A3, c3, rfl⟩ := h.L.rd.shape
    exact szMap_gen W H A1 A2 A3 _ c1 _ c2 _ c3 left w h0 h1 bt br bd
  clear h
  go_enter Tryz.func11, Tryz.ntmps11
  go_wp2_with fail
  refine (szRules_any _ _ _ _ _ _ l m _ _ _ _ _ _ _ HR.out h0 hL).mono ?_
  rintro e1 w1 ⟨r1, rfl, u1, u2, u3, k1⟩
  have s1 := keepb12 k1 s0
  have U3 := Lib.hid u3
  have K1 := KA.trans k1
  clear s0 k1 u3
  by_cases hneg : r1 < 0
  · go_wp2_with fail
    go_ret
    exact ⟨_, rfl, by omega, by omega, fun h => absurd h (by omega), K1⟩
  · go_wp2_with fail
    refine (C2.out _ _ (by omega) u1).mono ?_
    rintro e2 w2 ⟨r2, rfl, v1, v2, v3, k2⟩
    have V3 := Lib.hid v3
    clear v3
    by_cases hneg2 : r2 < 0
    · go_wp2_with fail
      go_ret
      exact ⟨_, rfl, by omega, by omega, fun h => absurd h (by omega), K1.trans k2⟩
    · go_wp2_with fail
      go_ret
      exact ⟨_, rfl, v1, v2, fun _ => ⟨U3.out (by omega), V3.out (by omega)⟩, K1.trans k2⟩

theorem OwnR.far {w : World} {base g1 g2 nt nk : Nat} {l : List Ter} {m : List Knd} {cs : List (Option Addr × Nat)} {ys zs : List Value} (h : OwnR w base g1 g2 nt nk l m cs ys zs) {b j : Nat} (hb : b < base) (u : Value) : OwnR (w.setCell ⟨b, j, none⟩ u) base g1 g2 nt nk l m cs ys zs :=
  ⟨h.t.far (Nat.lt_of_lt_of_le hb h.b) u, h.k.far (by have := h.b; have := h.g; omega) u, h.lc, h.lt, h.lk, h.b, h.g, by simpa using h.z, h.mid⟩
theorem OwnR.base {w : World} {base b g1 g2 nt nk : Nat} {l : List Ter} {m : List Knd} {cs : List (Option Addr × Nat)} {ys zs : List Value} (h : OwnR w base g1 g2 nt nk l m cs ys zs) (hb : b ≤ base) : OwnR w b g1 g2 nt nk l m cs ys zs :=
  ⟨h.t, h.k, h.lc, h.lt, h.lk, by have := h.b; omega, h.g, h.z, h.mid⟩
theorem Own3.far {w : World} {base : Nat} {t r d : Value} {lt lr ld : List Int} (h : Own3 w base t r d lt lr ld) {b j : Nat} (hb : b < base) (u : Value) : Own3 (w.setCell ⟨b, j, none⟩ u) base t r d lt lr ld :=
  ⟨h.ot.far (h.ot.not hb) u, h.or.far (h.or.not hb) u, h.od.far (h.od.not hb) u, h.tr, h.td, h.rd⟩
theorem Own3.base {w : World} {base b : Nat} {t r d : Value} {lt lr ld : List Int} (h : Own3 w base t r d lt lr ld) (hb : b ≤ base) : Own3 w b t r d lt lr ld :=
  ⟨h.ot.base hb, h.or.base hb, h.od.base hb, h.tr, h.td, h.rd⟩
/-- A copied board: rules, and a map's lists behind them. -/
structure OwnBrd (w : World) (base g1 g2 nt nk : Nat) (l : List Ter) (m : List Knd) (cs : List (Option Addr × Nat)) (ys zs : List Value) (x r y : Value) (lt lr ld : List Int) : Prop where
  R : OwnR w base g1 g2 nt nk l m cs ys zs
  M : Own3 w (g2 + 1) x r y lt lr ld
theorem OwnBrd.keep {w w' : World} {base g1 g2 nt nk : Nat} {l : List Ter} {m : List Knd} {cs : List (Option Addr × Nat)} {ys zs : List Value} {x r y : Value} {lt lr ld : List Int} (h : OwnBrd w base g1 g2 nt nk l m cs ys zs x r y lt lr ld) (k : Kp w w') : OwnBrd w' base g1 g2 nt nk l m cs ys zs x r y lt lr ld :=
  ⟨h.R.keep k, h.M.keep k⟩
theorem OwnBrd.at {w w0 : World} {At Ak : Option Addr} {base g1 g2 nt nk : Nat} {l : List Ter} {m : List Knd} {cs : List (Option Addr × Nat)} {ys zs : List Value} {x r y x0 r0 y0 : Value} {lt lr ld : List Int} (h : OwnBrd w base g1 g2 nt nk l m cs ys zs x r y lt lr ld) (b : BrdAt w0 At Ak nt nk l m x0 r0 y0 lt lr ld) : BrdAt w (some ⟨g1, 0, none⟩) (some ⟨g2, 0, none⟩) nt nk l m x r y lt lr ld :=
  ⟨h.R.rul b.R, h.M.lists b.L⟩

abbrev Live12 (w : World) (b : Nat) (v0 v1 v2 v3 v4 v5 v6 v7 v8 v9 v10 v11 : Value) : Prop :=
  (w.cell? ⟨b, 0, none⟩ = some v0 ∧ w.frozen? ⟨b, 0, none⟩ = false) ∧ (w.cell? ⟨b, 1, none⟩ = some v1 ∧ w.frozen? ⟨b, 1, none⟩ = false) ∧ (w.cell? ⟨b, 2, none⟩ = some v2 ∧ w.frozen? ⟨b, 2, none⟩ = false) ∧ (w.cell? ⟨b, 3, none⟩ = some v3 ∧ w.frozen? ⟨b, 3, none⟩ = false) ∧ (w.cell? ⟨b, 4, none⟩ = some v4 ∧ w.frozen? ⟨b, 4, none⟩ = false) ∧ (w.cell? ⟨b, 5, none⟩ = some v5 ∧ w.frozen? ⟨b, 5, none⟩ = false) ∧ (w.cell? ⟨b, 6, none⟩ = some v6 ∧ w.frozen? ⟨b, 6, none⟩ = false) ∧ (w.cell? ⟨b, 7, none⟩ = some v7 ∧ w.frozen? ⟨b, 7, none⟩ = false) ∧ (w.cell? ⟨b, 8, none⟩ = some v8 ∧ w.frozen? ⟨b, 8, none⟩ = false) ∧ (w.cell? ⟨b, 9, none⟩ = some v9 ∧ w.frozen? ⟨b, 9, none⟩ = false) ∧ (w.cell? ⟨b, 10, none⟩ = some v10 ∧ w.frozen? ⟨b, 10, none⟩ = false) ∧ (w.cell? ⟨b, 11, none⟩ = some v11 ∧ w.frozen? ⟨b, 11, none⟩ = false)
theorem live12_keep {w w' : World} {b : Nat} {v0 v1 v2 v3 v4 v5 v6 v7 v8 v9 v10 v11 : Value} (k : Kp w w') (h : Live12 w b v0 v1 v2 v3 v4 v5 v6 v7 v8 v9 v10 v11) : Live12 w' b v0 v1 v2 v3 v4 v5 v6 v7 v8 v9 v10 v11 :=
  ⟨k.liv h.1, k.liv h.2.1, k.liv h.2.2.1, k.liv h.2.2.2.1, k.liv h.2.2.2.2.1, k.liv h.2.2.2.2.2.1, k.liv h.2.2.2.2.2.2.1, k.liv h.2.2.2.2.2.2.2.1, k.liv h.2.2.2.2.2.2.2.2.1, k.liv h.2.2.2.2.2.2.2.2.2.1, k.liv h.2.2.2.2.2.2.2.2.2.2.1, k.liv h.2.2.2.2.2.2.2.2.2.2.2⟩


set_option maxRecDepth 100000 in
set_option maxHeartbeats 8000000 in
theorem toBoard_any (At Ak : Option Addr) (nt nk ct ck : Nat) (l : List Ter) (m : List Knd) (a b c d e W H : Int) (x r y : Value) (lt lr ld : List Int) (mt mr md : Nat) (w : World) (h : BrdAt w At Ak nt nk l m x r y lt lr ld) (e1 : lt.length = mt) (e2 : lr.length = mr) (e3 : ld.length = md) :
    Calls Tryz.prog 13 #[bv (.slice At nt ct) (.slice Ak nk ck) a b c d e W H x r y] w fun e' w' => ∃ (g1 g2 : Nat) (cs : List (Option Addr × Nat)) (ys zs : List Value) (A1 : Option Addr) (c1 : Nat) (A2 : Option Addr) (c2 : Nat) (A3 : Option Addr) (c3 : Nat), e' = .returned (bv (.slice (some ⟨g1, 0, none⟩) nt nt) (.slice (some ⟨g2, 0, none⟩) nk nk) a b c d e W H (.slice A1 mt c1) (.slice A2 mr c2) (.slice A3 md c3)) ∧ OwnBrd w' w.heap.size g1 g2 nt nk l m cs ys zs (.slice A1 mt c1) (.slice A2 mr c2) (.slice A3 md c3) lt lr ld ∧ Kp w w' := by
  have HB := Lib.hid h
  have k0 : Kp w (((w.alloc (.cells #[.slice At nt ct, .slice Ak nk ck, .int .i64 a, .int .i64 b, .int .i64 c, .int .i64 d, .int .i64 e, .int .i64 W, .int .i64 H, x, r, y] 30)).alloc (.cells #[.slice none 0 0, .slice none 0 0, .int .i64 0, .int .i64 0, .int .i64 0, .int .i64 0, .int .i64 0, .int .i64 0, .int .i64 0, .slice none 0 0, .slice none 0 0, .slice none 0 0] 41)).alloc (.cells #[.slice none 0 0, .slice none 0 0, .int .i64 0, .int .i64 0, .int .i64 0, .int .i64 0, .int .i64 0, .int .i64 0, .int .i64 0, .slice none 0 0, .slice none 0 0, .slice none 0 0] 41)) := (((Kp.refl w).alloc _).alloc _).alloc _
  have CT := Lib.hid (fun w (h : Lists w x r y lt lr ld) => toMap_sl W H x r y lt lr ld mt mr md w h e1 e2 e3)
  clear h e1 e2 e3
  go_enter Tryz.func13, Tryz.ntmps13
  go_wp2_with fail
  refine (toRules_any _ _ _ _ _ _ l m _ _ _ _ _ _ (HB.out.keep k0).R).mono ?_
  rintro e1 w1 ⟨g1, g2, cs, ys, zs, rfl, o1, k1⟩
  have a7 : w1.cell? ⟨w.heap.size, 7, none⟩ = some (.int .i64 W) := k1.cell (by simp [go_sem])
  have a8 : w1.cell? ⟨w.heap.size, 8, none⟩ = some (.int .i64 H) := k1.cell (by simp [go_sem])
  have a9 : w1.cell? ⟨w.heap.size, 9, none⟩ = some (x) := k1.cell (by simp [go_sem])
  have a10 : w1.cell? ⟨w.heap.size, 10, none⟩ = some (r) := k1.cell (by simp [go_sem])
  have a11 : w1.cell? ⟨w.heap.size, 11, none⟩ = some (y) := k1.cell (by simp [go_sem])
  have L1 : Live12 w1 (w.heap.size + 1) (.slice none 0 0) (.slice none 0 0) (.int .i64 0) (.int .i64 0) (.int .i64 0) (.int .i64 0) (.int .i64 0) (.int .i64 0) (.int .i64 0) (.slice none 0 0) (.slice none 0 0) (.slice none 0 0) := live12_keep k1 ⟨by simp [go_sem], by simp [go_sem], by simp [go_sem], by simp [go_sem], by simp [go_sem], by simp [go_sem], by simp [go_sem], by simp [go_sem], by simp [go_sem], by simp [go_sem], by simp [go_sem], by simp [go_sem]⟩
  have M1 : Live12 w1 (w.heap.size + 1 + 1) (.slice none 0 0) (.slice none 0 0) (.int .i64 0) (.int .i64 0) (.int .i64 0) (.int .i64 0) (.int .i64 0) (.int .i64 0) (.int .i64 0) (.slice none 0 0) (.slice none 0 0) (.slice none 0 0) := live12_keep k1 ⟨by simp [go_sem], by simp [go_sem], by simp [go_sem], by simp [go_sem], by simp [go_sem], by simp [go_sem], by simp [go_sem], by simp [go_sem], by simp [go_sem], by simp [go_sem], by simp [go_sem], by simp [go_sem]⟩
  have K1 : Kp w w1 := k0.trans k1
  have eg : (((w.alloc (.cells #[.slice At nt ct, .slice Ak nk ck, .int .i64 a, .int .i64 b, .int .i64 c, .int .i64 d, .int .i64 e, .int .i64 W, .int .i64 H, x, r, y] 30)).alloc (.cells #[.slice none 0 0, .slice none 0 0, .int .i64 0, .int .i64 0, .int .i64 0, .int .i64 0, .int .i64 0, .int .i64 0, .int .i64 0, .slice none 0 0, .slice none 0 0, .slice none 0 0] 41)).alloc (.cells #[.slice none 0 0, .slice none 0 0, .int .i64 0, .int .i64 0, .int .i64 0, .int .i64 0, .int .i64 0, .int .i64 0, .int .i64 0, .slice none 0 0, .slice none 0 0, .slice none 0 0] 41)).heap.size = w.heap.size + 3 := by simp
  rw [eg] at o1
  have z1 : w.heap.size + 3 < w1.heap.size := by have := o1.b; have := o1.g; have := o1.z; omega
  have z1b : g2 < w1.heap.size := o1.z
  have O1 := Lib.hid o1
  clear k0 k1 o1 eg
  go_wp2_with fail
  have K1' : Kp w (((((((w1.setCell ⟨w.heap.size + 1 + 1, 0, none⟩ (.slice (some ⟨g1, 0, none⟩) nt nt)).setCell ⟨w.heap.size + 1 + 1, 1, none⟩ (.slice (some ⟨g2, 0, none⟩) nk nk)).setCell ⟨w.heap.size + 1 + 1, 2, none⟩ (.int .i64 a)).setCell ⟨w.heap.size + 1 + 1, 3, none⟩ (.int .i64 b)).setCell ⟨w.heap.size + 1 + 1, 4, none⟩ (.int .i64 c)).setCell ⟨w.heap.size + 1 + 1, 5, none⟩ (.int .i64 d)).setCell ⟨w.heap.size + 1 + 1, 6, none⟩ (.int .i64 e)) := (((((((K1.setCell (by simp <;> omega) _).setCell (by simp <;> omega) _).setCell (by simp <;> omega) _).setCell (by simp <;> omega) _).setCell (by simp <;> omega) _).setCell (by simp <;> omega) _).setCell (by simp <;> omega) _)
  refine (CT.out _ (HB.out.keep K1').L).mono ?_
  rintro e2 w2 ⟨A1, c1, A2, c2, A3, c3, rfl, o2, k2⟩
  have L2 : Live12 w2 (w.heap.size + 1) (.slice none 0 0) (.slice none 0 0) (.int .i64 0) (.int .i64 0) (.int .i64 0) (.int .i64 0) (.int .i64 0) (.int .i64 0) (.int .i64 0) (.slice none 0 0) (.slice none 0 0) (.slice none 0 0) := live12_keep k2 ⟨by simp [go_sem, *], by simp [go_sem, *], by simp [go_sem, *], by simp [go_sem, *], by simp [go_sem, *], by simp [go_sem, *], by simp [go_sem, *], by simp [go_sem, *], by simp [go_sem, *], by simp [go_sem, *], by simp [go_sem, *], by simp [go_sem, *]⟩
  have M2 : Live12 w2 (w.heap.size + 1 + 1) (.slice (some ⟨g1, 0, none⟩) nt nt) (.slice (some ⟨g2, 0, none⟩) nk nk) (.int .i64 a) (.int .i64 b) (.int .i64 c) (.int .i64 d) (.int .i64 e) (.int .i64 0) (.int .i64 0) (.slice none 0 0) (.slice none 0 0) (.slice none 0 0) := live12_keep k2 ⟨by simp [go_sem, *], by simp [go_sem, *], by simp [go_sem, *], by simp [go_sem, *], by simp [go_sem, *], by simp [go_sem, *], by simp [go_sem, *], by simp [go_sem, *], by simp [go_sem, *], by simp [go_sem, *], by simp [go_sem, *], by simp [go_sem, *]⟩
  have K2 : Kp w w2 := K1'.trans k2
  have O2 := Lib.hid ((((((((O1.out.far (by omega) _).far (by omega) _).far (by omega) _).far (by omega) _).far (by omega) _).far (by omega) _).far (by omega) _).keep k2)
  have eg : (((((((w1.setCell ⟨w.heap.size + 1 + 1, 0, none⟩ (.slice (some ⟨g1, 0, none⟩) nt nt)).setCell ⟨w.heap.size + 1 + 1, 1, none⟩ (.slice (some ⟨g2, 0, none⟩) nk nk)).setCell ⟨w.heap.size + 1 + 1, 2, none⟩ (.int .i64 a)).setCell ⟨w.heap.size + 1 + 1, 3, none⟩ (.int .i64 b)).setCell ⟨w.heap.size + 1 + 1, 4, none⟩ (.int .i64 c)).setCell ⟨w.heap.size + 1 + 1, 5, none⟩ (.int .i64 d)).setCell ⟨w.heap.size + 1 + 1, 6, none⟩ (.int .i64 e)).heap.size = w1.heap.size := by simp
  rw [eg] at o2
  have P2 := Lib.hid o2
  have z2 : w.heap.size + 3 ≤ w2.heap.size := by have := k2.size; rw [eg] at this; omega
  clear K1' k2 o2 a7 a8 a9 a10 a11 L1 M1 K1 O1 eg
  go_wp2_with fail
  refine bodyPost_ret (v := bv (.slice (some ⟨g1, 0, none⟩) nt nt) (.slice (some ⟨g2, 0, none⟩) nk nk) a b c d e W H (.slice A1 mt c1) (.slice A2 mr c2) (.slice A3 md c3)) (by simp [results, Tryz.results13, go_sem, *]) rfl ⟨g1, g2, cs, ys, zs, A1, c1, A2, c2, A3, c3, rfl, ⟨?_, ?_⟩, ?_⟩
  · exact (((((((((((((((((O2.out.far (by omega) _).far (by omega) _).far (by omega) _).far (by omega) _).far (by omega) _).far (by omega) _).far (by omega) _).far (by omega) _).far (by omega) _).far (by omega) _).far (by omega) _).far (by omega) _).far (by omega) _).far (by omega) _).far (by omega) _).far (by omega) _).far (by omega) _).base (by omega)
  · exact (((((((((((((((((P2.out.far (by omega) _).far (by omega) _).far (by omega) _).far (by omega) _).far (by omega) _).far (by omega) _).far (by omega) _).far (by omega) _).far (by omega) _).far (by omega) _).far (by omega) _).far (by omega) _).far (by omega) _).far (by omega) _).far (by omega) _).far (by omega) _).far (by omega) _).base (by omega)
  · exact (((((((((((((((((K2.setCell (by simp <;> omega) _).setCell (by simp <;> omega) _).setCell (by simp <;> omega) _).setCell (by simp <;> omega) _).setCell (by simp <;> omega) _).setCell (by simp <;> omega) _).setCell (by simp <;> omega) _).setCell (by simp <;> omega) _).setCell (by simp <;> omega) _).setCell (by simp <;> omega) _).setCell (by simp <;> omega) _).setCell (by simp <;> omega) _).setCell (by simp <;> omega) _).setCell (by simp <;> omega) _).setCell (by simp <;> omega) _).setCell (by simp <;> omega) _).setCell (by simp <;> omega) _)

set_option maxRecDepth 100000 in
set_option maxHeartbeats 4000000 in
theorem eqBoard_same (At Ak Bt Bk : Option Addr) (nt nk ct ck dt dk : Nat) (l : List Ter) (m : List Knd) (a b c d e W H : Int) (x r y x2 r2 y2 : Value) (lt lr ld : List Int) (w : World) (hA : BrdAt w At Ak nt nk l m x r y lt lr ld) (hB : BrdAt w Bt Bk nt nk l m x2 r2 y2 lt lr ld) :
    Calls Tryz.prog 16 #[bv (.slice At nt ct) (.slice Ak nk ck) a b c d e W H x r y, bv (.slice Bt nt dt) (.slice Bk nk dk) a b c d e W H x2 r2 y2] w fun e' w' => e' = .returned (.bool true) ∧ Kp w w' := by
  have KA : Kp w ((w.alloc (.cells #[.slice At nt ct, .slice Ak nk ck, .int .i64 a, .int .i64 b, .int .i64 c, .int .i64 d, .int .i64 e, .int .i64 W, .int .i64 H, x, r, y] 41)).alloc (.cells #[.slice Bt nt dt, .slice Bk nk dk, .int .i64 a, .int .i64 b, .int .i64 c, .int .i64 d, .int .i64 e, .int .i64 W, .int .i64 H, x2, r2, y2] 41)) := ((Kp.refl w).alloc _).alloc _
  have sA : ((w.alloc (.cells #[.slice At nt ct, .slice Ak nk ck, .int .i64 a, .int .i64 b, .int .i64 c, .int .i64 d, .int .i64 e, .int .i64 W, .int .i64 H, x, r, y] 41)).alloc (.cells #[.slice Bt nt dt, .slice Bk nk dk, .int .i64 a, .int .i64 b, .int .i64 c, .int .i64 d, .int .i64 e, .int .i64 W, .int .i64 H, x2, r2, y2] 41)).cell? ⟨w.heap.size, 0, none⟩ = some (.slice At nt ct) ∧ ((w.alloc (.cells #[.slice At nt ct, .slice Ak nk ck, .int .i64 a, .int .i64 b, .int .i64 c, .int .i64 d, .int .i64 e, .int .i64 W, .int .i64 H, x, r, y] 41)).alloc (.cells #[.slice Bt nt dt, .slice Bk nk dk, .int .i64 a, .int .i64 b, .int .i64 c, .int .i64 d, .int .i64 e, .int .i64 W, .int .i64 H, x2, r2, y2] 41)).cell? ⟨w.heap.size, 1, none⟩ = some (.slice Ak nk ck) ∧ ((w.alloc (.cells #[.slice At nt ct, .slice Ak nk ck, .int .i64 a, .int .i64 b, .int .i64 c, .int .i64 d, .int .i64 e, .int .i64 W, .int .i64 H, x, r, y] 41)).alloc (.cells #[.slice Bt nt dt, .slice Bk nk dk, .int .i64 a, .int .i64 b, .int .i64 c, .int .i64 d, .int .i64 e, .int .i64 W, .int .i64 H, x2, r2, y2] 41)).cell? ⟨w.heap.size, 2, none⟩ = some (.int .i64 a) ∧ ((w.alloc (.cells #[.slice At nt ct, .slice Ak nk ck, .int .i64 a, .int .i64 b, .int .i64 c, .int .i64 d, .int .i64 e, .int .i64 W, .int .i64 H, x, r, y] 41)).alloc (.cells #[.slice Bt nt dt, .slice Bk nk dk, .int .i64 a, .int .i64 b, .int .i64 c, .int .i64 d, .int .i64 e, .int .i64 W, .int .i64 H, x2, r2, y2] 41)).cell? ⟨w.heap.size, 3, none⟩ = some (.int .i64 b) ∧ ((w.alloc (.cells #[.slice At nt ct, .slice Ak nk ck, .int .i64 a, .int .i64 b, .int .i64 c, .int .i64 d, .int .i64 e, .int .i64 W, .int .i64 H, x, r, y] 41)).alloc (.cells #[.slice Bt nt dt, .slice Bk nk dk, .int .i64 a, .int .i64 b, .int .i64 c, .int .i64 d, .int .i64 e, .int .i64 W, .int .i64 H, x2, r2, y2] 41)).cell? ⟨w.heap.size, 4, none⟩ = some (.int .i64 c) ∧ ((w.alloc (.cells #[.slice At nt ct, .slice Ak nk ck, .int .i64 a, .int .i64 b, .int .i64 c, .int .i64 d, .int .i64 e, .int .i64 W, .int .i64 H, x, r, y] 41)).alloc (.cells #[.slice Bt nt dt, .slice Bk nk dk, .int .i64 a, .int .i64 b, .int .i64 c, .int .i64 d, .int .i64 e, .int .i64 W, .int .i64 H, x2, r2, y2] 41)).cell? ⟨w.heap.size, 5, none⟩ = some (.int .i64 d) ∧ ((w.alloc (.cells #[.slice At nt ct, .slice Ak nk ck, .int .i64 a, .int .i64 b, .int .i64 c, .int .i64 d, .int .i64 e, .int .i64 W, .int .i64 H, x, r, y] 41)).alloc (.cells #[.slice Bt nt dt, .slice Bk nk dk, .int .i64 a, .int .i64 b, .int .i64 c, .int .i64 d, .int .i64 e, .int .i64 W, .int .i64 H, x2, r2, y2] 41)).cell? ⟨w.heap.size, 6, none⟩ = some (.int .i64 e) ∧ ((w.alloc (.cells #[.slice At nt ct, .slice Ak nk ck, .int .i64 a, .int .i64 b, .int .i64 c, .int .i64 d, .int .i64 e, .int .i64 W, .int .i64 H, x, r, y] 41)).alloc (.cells #[.slice Bt nt dt, .slice Bk nk dk, .int .i64 a, .int .i64 b, .int .i64 c, .int .i64 d, .int .i64 e, .int .i64 W, .int .i64 H, x2, r2, y2] 41)).cell? ⟨w.heap.size, 7, none⟩ = some (.int .i64 W) ∧ ((w.alloc (.cells #[.slice At nt ct, .slice Ak nk ck, .int .i64 a, .int .i64 b, .int .i64 c, .int .i64 d, .int .i64 e, .int .i64 W, .int .i64 H, x, r, y] 41)).alloc (.cells #[.slice Bt nt dt, .slice Bk nk dk, .int .i64 a, .int .i64 b, .int .i64 c, .int .i64 d, .int .i64 e, .int .i64 W, .int .i64 H, x2, r2, y2] 41)).cell? ⟨w.heap.size, 8, none⟩ = some (.int .i64 H) ∧ ((w.alloc (.cells #[.slice At nt ct, .slice Ak nk ck, .int .i64 a, .int .i64 b, .int .i64 c, .int .i64 d, .int .i64 e, .int .i64 W, .int .i64 H, x, r, y] 41)).alloc (.cells #[.slice Bt nt dt, .slice Bk nk dk, .int .i64 a, .int .i64 b, .int .i64 c, .int .i64 d, .int .i64 e, .int .i64 W, .int .i64 H, x2, r2, y2] 41)).cell? ⟨w.heap.size, 9, none⟩ = some (x) ∧ ((w.alloc (.cells #[.slice At nt ct, .slice Ak nk ck, .int .i64 a, .int .i64 b, .int .i64 c, .int .i64 d, .int .i64 e, .int .i64 W, .int .i64 H, x, r, y] 41)).alloc (.cells #[.slice Bt nt dt, .slice Bk nk dk, .int .i64 a, .int .i64 b, .int .i64 c, .int .i64 d, .int .i64 e, .int .i64 W, .int .i64 H, x2, r2, y2] 41)).cell? ⟨w.heap.size, 10, none⟩ = some (r) ∧ ((w.alloc (.cells #[.slice At nt ct, .slice Ak nk ck, .int .i64 a, .int .i64 b, .int .i64 c, .int .i64 d, .int .i64 e, .int .i64 W, .int .i64 H, x, r, y] 41)).alloc (.cells #[.slice Bt nt dt, .slice Bk nk dk, .int .i64 a, .int .i64 b, .int .i64 c, .int .i64 d, .int .i64 e, .int .i64 W, .int .i64 H, x2, r2, y2] 41)).cell? ⟨w.heap.size, 11, none⟩ = some (y) := ⟨by simp [go_sem], by simp [go_sem], by simp [go_sem], by simp [go_sem], by simp [go_sem], by simp [go_sem], by simp [go_sem], by simp [go_sem], by simp [go_sem], by simp [go_sem], by simp [go_sem], by simp [go_sem]⟩
  have sB : ((w.alloc (.cells #[.slice At nt ct, .slice Ak nk ck, .int .i64 a, .int .i64 b, .int .i64 c, .int .i64 d, .int .i64 e, .int .i64 W, .int .i64 H, x, r, y] 41)).alloc (.cells #[.slice Bt nt dt, .slice Bk nk dk, .int .i64 a, .int .i64 b, .int .i64 c, .int .i64 d, .int .i64 e, .int .i64 W, .int .i64 H, x2, r2, y2] 41)).cell? ⟨w.heap.size + 1, 0, none⟩ = some (.slice Bt nt dt) ∧ ((w.alloc (.cells #[.slice At nt ct, .slice Ak nk ck, .int .i64 a, .int .i64 b, .int .i64 c, .int .i64 d, .int .i64 e, .int .i64 W, .int .i64 H, x, r, y] 41)).alloc (.cells #[.slice Bt nt dt, .slice Bk nk dk, .int .i64 a, .int .i64 b, .int .i64 c, .int .i64 d, .int .i64 e, .int .i64 W, .int .i64 H, x2, r2, y2] 41)).cell? ⟨w.heap.size + 1, 1, none⟩ = some (.slice Bk nk dk) ∧ ((w.alloc (.cells #[.slice At nt ct, .slice Ak nk ck, .int .i64 a, .int .i64 b, .int .i64 c, .int .i64 d, .int .i64 e, .int .i64 W, .int .i64 H, x, r, y] 41)).alloc (.cells #[.slice Bt nt dt, .slice Bk nk dk, .int .i64 a, .int .i64 b, .int .i64 c, .int .i64 d, .int .i64 e, .int .i64 W, .int .i64 H, x2, r2, y2] 41)).cell? ⟨w.heap.size + 1, 2, none⟩ = some (.int .i64 a) ∧ ((w.alloc (.cells #[.slice At nt ct, .slice Ak nk ck, .int .i64 a, .int .i64 b, .int .i64 c, .int .i64 d, .int .i64 e, .int .i64 W, .int .i64 H, x, r, y] 41)).alloc (.cells #[.slice Bt nt dt, .slice Bk nk dk, .int .i64 a, .int .i64 b, .int .i64 c, .int .i64 d, .int .i64 e, .int .i64 W, .int .i64 H, x2, r2, y2] 41)).cell? ⟨w.heap.size + 1, 3, none⟩ = some (.int .i64 b) ∧ ((w.alloc (.cells #[.slice At nt ct, .slice Ak nk ck, .int .i64 a, .int .i64 b, .int .i64 c, .int .i64 d, .int .i64 e, .int .i64 W, .int .i64 H, x, r, y] 41)).alloc (.cells #[.slice Bt nt dt, .slice Bk nk dk, .int .i64 a, .int .i64 b, .int .i64 c, .int .i64 d, .int .i64 e, .int .i64 W, .int .i64 H, x2, r2, y2] 41)).cell? ⟨w.heap.size + 1, 4, none⟩ = some (.int .i64 c) ∧ ((w.alloc (.cells #[.slice At nt ct, .slice Ak nk ck, .int .i64 a, .int .i64 b, .int .i64 c, .int .i64 d, .int .i64 e, .int .i64 W, .int .i64 H, x, r, y] 41)).alloc (.cells #[.slice Bt nt dt, .slice Bk nk dk, .int .i64 a, .int .i64 b, .int .i64 c, .int .i64 d, .int .i64 e, .int .i64 W, .int .i64 H, x2, r2, y2] 41)).cell? ⟨w.heap.size + 1, 5, none⟩ = some (.int .i64 d) ∧ ((w.alloc (.cells #[.slice At nt ct, .slice Ak nk ck, .int .i64 a, .int .i64 b, .int .i64 c, .int .i64 d, .int .i64 e, .int .i64 W, .int .i64 H, x, r, y] 41)).alloc (.cells #[.slice Bt nt dt, .slice Bk nk dk, .int .i64 a, .int .i64 b, .int .i64 c, .int .i64 d, .int .i64 e, .int .i64 W, .int .i64 H, x2, r2, y2] 41)).cell? ⟨w.heap.size + 1, 6, none⟩ = some (.int .i64 e) ∧ ((w.alloc (.cells #[.slice At nt ct, .slice Ak nk ck, .int .i64 a, .int .i64 b, .int .i64 c, .int .i64 d, .int .i64 e, .int .i64 W, .int .i64 H, x, r, y] 41)).alloc (.cells #[.slice Bt nt dt, .slice Bk nk dk, .int .i64 a, .int .i64 b, .int .i64 c, .int .i64 d, .int .i64 e, .int .i64 W, .int .i64 H, x2, r2, y2] 41)).cell? ⟨w.heap.size + 1, 7, none⟩ = some (.int .i64 W) ∧ ((w.alloc (.cells #[.slice At nt ct, .slice Ak nk ck, .int .i64 a, .int .i64 b, .int .i64 c, .int .i64 d, .int .i64 e, .int .i64 W, .int .i64 H, x, r, y] 41)).alloc (.cells #[.slice Bt nt dt, .slice Bk nk dk, .int .i64 a, .int .i64 b, .int .i64 c, .int .i64 d, .int .i64 e, .int .i64 W, .int .i64 H, x2, r2, y2] 41)).cell? ⟨w.heap.size + 1, 8, none⟩ = some (.int .i64 H) ∧ ((w.alloc (.cells #[.slice At nt ct, .slice Ak nk ck, .int .i64 a, .int .i64 b, .int .i64 c, .int .i64 d, .int .i64 e, .int .i64 W, .int .i64 H, x, r, y] 41)).alloc (.cells #[.slice Bt nt dt, .slice Bk nk dk, .int .i64 a, .int .i64 b, .int .i64 c, .int .i64 d, .int .i64 e, .int .i64 W, .int .i64 H, x2, r2, y2] 41)).cell? ⟨w.heap.size + 1, 9, none⟩ = some (x2) ∧ ((w.alloc (.cells #[.slice At nt ct, .slice Ak nk ck, .int .i64 a, .int .i64 b, .int .i64 c, .int .i64 d, .int .i64 e, .int .i64 W, .int .i64 H, x, r, y] 41)).alloc (.cells #[.slice Bt nt dt, .slice Bk nk dk, .int .i64 a, .int .i64 b, .int .i64 c, .int .i64 d, .int .i64 e, .int .i64 W, .int .i64 H, x2, r2, y2] 41)).cell? ⟨w.heap.size + 1, 10, none⟩ = some (r2) ∧ ((w.alloc (.cells #[.slice At nt ct, .slice Ak nk ck, .int .i64 a, .int .i64 b, .int .i64 c, .int .i64 d, .int .i64 e, .int .i64 W, .int .i64 H, x, r, y] 41)).alloc (.cells #[.slice Bt nt dt, .slice Bk nk dk, .int .i64 a, .int .i64 b, .int .i64 c, .int .i64 d, .int .i64 e, .int .i64 W, .int .i64 H, x2, r2, y2] 41)).cell? ⟨w.heap.size + 1, 11, none⟩ = some (y2) := ⟨by simp [go_sem], by simp [go_sem], by simp [go_sem], by simp [go_sem], by simp [go_sem], by simp [go_sem], by simp [go_sem], by simp [go_sem], by simp [go_sem], by simp [go_sem], by simp [go_sem], by simp [go_sem]⟩
  have HA := Lib.hid (hA.keep KA)
  have HB := Lib.hid (hB.keep KA)
  clear hA hB
  go_enter Tryz.func16, Tryz.ntmps16
  go_wp2_with fail
  refine (eqRules_same _ _ _ _ _ _ _ _ _ _ l m _ _ _ _ _ _ HA.out.R.rt HA.out.R.rk HB.out.R.rt HB.out.R.rk HA.out.R.bt HA.out.R.bk (fun x hx => (HA.out.R.bc x hx).1)).mono ?_
  rintro e1 w1 ⟨rfl, k1⟩
  have tA := keepb12 k1 sA
  have tB := keepb12 k1 sB
  have K1 := KA.trans k1
  have HA1 := Lib.hid (HA.out.keep k1)
  have HB1 := Lib.hid (HB.out.keep k1)
  clear sA sB k1 HA HB
  go_wp2_with fail
  refine (eqMap_same _ _ _ _ _ _ _ _ lt lr ld _ HA1.out.L HB1.out.L).mono ?_
  rintro e2 w2 ⟨rfl, k2⟩
  go_wp2_with fail
  go_ret
  exact ⟨rfl, K1.trans k2⟩

theorem cellsBrd : Tryz.prog.cellsOf 30 = 12 := by kernel_rfl
theorem boardFields : ∃ f0 f1 : Field, Tryz.prog.underlying 30 = some (.struct #[f0, f1]) ∧ f0.type = 25 ∧ f1.type = 28 ∧ f0.offset = 0 ∧ f1.offset = 7 :=
  ⟨_, _, Tryz.underlying30, rfl, rfl, rfl, rfl⟩
set_option maxRecDepth 100000 in
/-- Five cells that read as a map. -/
theorem map_cells {H : Type} {enc : TypeId × Value → H} {W : World} {cs : List Value} {n : Nat} (hl : cs.length = 5)
    (hf : ∀ (j : Nat) (f : Field), (match Tryz.prog.underlying 28 with | some (.struct fs) => fs | _ => #[])[j]? = some f → ∃ c y, cs[j]? = some c ∧ DataW.trod enc Tryz.prog W 0 (fun _ => true) true n f.type [c] = some y) :
    ∃ (wd ht : Int) (t r e : Value) (lt lr ld : List Int), cs = [.int .i64 wd, .int .i64 ht, t, r, e] ∧ Reads W t r e lt lr ld := by
  rw [Tryz.underlying28] at hf
  obtain ⟨c0, y0, q0, h0⟩ := hf 0 _ rfl
  obtain ⟨c1, y1, q1, h1⟩ := hf 1 _ rfl
  obtain ⟨c2, y2, q2, h2⟩ := hf 2 _ rfl
  obtain ⟨c3, y3, q3, h3⟩ := hf 3 _ rfl
  obtain ⟨c4, y4, q4, h4⟩ := hf 4 _ rfl
  obtain rfl := five hl q0 q1 q2 q3 q4
  obtain ⟨a, e0, rfl, wa⟩ := DataW.trod_int Tryz.underlying3 h0
  obtain ⟨b, e1, rfl, wb⟩ := DataW.trod_int Tryz.underlying3 h1
  simp only [List.cons.injEq, and_true] at e0 e1
  subst e0 e1
  obtain ⟨lt, r1, r2, r3⟩ := rdB_of_trod h2
  obtain ⟨lr, s1, s2, s3⟩ := rdB_of_trod h3
  obtain ⟨ld, t1, t2, t3⟩ := rdB_of_trod h4
  exact ⟨a, b, c2, c3, c4, lt, lr, ld, rfl, ⟨r1, s1, t1, r2, s2, t2, r3, s3, t3⟩⟩

set_option maxRecDepth 100000 in
/-- Twelve cells that read as a board. -/
theorem board_cells {H : Type} {enc : TypeId × Value → H} {W : World} {cs : List Value} {n : Nat} {y : DataW H × List MemPlace} (hl : cs.length = 12) (hf : DataW.trod enc Tryz.prog W 0 (fun _ => true) true n 30 cs = some y) :
    ∃ (At Ak : Option Addr) (nt nk ct ck : Nat) (l : List Ter) (m : List Knd) (a b c d e W' H' : Int) (x r y : Value) (lt lr ld : List Int), cs = [.slice At nt ct, .slice Ak nk ck, .int .i64 a, .int .i64 b, .int .i64 c, .int .i64 d, .int .i64 e, .int .i64 W', .int .i64 H', x, r, y] ∧ BrdIn W At Ak nt nk l m x r y lt lr ld ∧ ∀ x ∈ l, ∀ z ∈ x.cost, -9223372036854775808 ≤ z ∧ z ≤ 9223372036854775807 := by
  obtain ⟨f0, f1, hu, e0, e1, o0, o1⟩ := boardFields
  obtain ⟨y0, y1, n', hx, hlen, u0, u1⟩ := trod_struct2 hu hf
  rw [e0, o0, cellsRul] at u0
  rw [e1, o1, cellsMap] at u1
  have l0 : ((cs.drop 0).take 7).length = 7 := by simp; omega
  have l1 : ((cs.drop 7).take 5).length = 5 := by simp; omega
  obtain ⟨k0, h0⟩ := fields_of_trod Tryz.underlying25 (by kernel_rfl) rfl l0 u0
  obtain ⟨k1, h1⟩ := fields_of_trod Tryz.underlying28 (by kernel_rfl) rfl l1 u1
  obtain ⟨At, Ak, nt, nk, ct, ck, l, m, a, b, c, d, e, r0, r1, r2⟩ := rules_cells (n := k0) l0 (by rw [Tryz.underlying25]; exact h0)
  obtain ⟨wd, ht, t, r, z, lt, lr, ld, q0, q1⟩ := map_cells (n := k1) l1 (by rw [Tryz.underlying28]; exact h1)
  refine ⟨At, Ak, nt, nk, ct, ck, l, m, a, b, c, d, e, wd, ht, t, r, z, lt, lr, ld, ?_, ⟨r1, q1⟩, r2⟩
  have e5 : (cs.drop 7).take 5 = cs.drop 7 := List.take_of_length_le (by simp; omega)
  rw [e5] at q0
  rw [List.drop_zero] at r0
  rw [← List.take_append_drop 7 cs, r0, q0]
  rfl

set_option maxRecDepth 100000 in
/-- An argument of type Board. -/
theorem open_board {H : Type} {enc : TypeId × Value → H} {W : World} {base : Nat} {v : Value} {d : DataW H} {p : List MemPlace}
    (hv : Value.okWide Tryz.prog W .any base 30 v) (h : DataW.Trod enc Tryz.prog W 0 (fun _ => true) true 30 v d p) :
    ∃ (At Ak : Option Addr) (nt nk ct ck : Nat) (l : List Ter) (m : List Knd) (a b c d e W' H' : Int) (x r y : Value) (lt lr ld : List Int), v = bv (.slice At nt ct) (.slice Ak nk ck) a b c d e W' H' x r y ∧ BrdIn W At Ak nt nk l m x r y lt lr ld ∧ ∀ x ∈ l, ∀ z ∈ x.cost, -9223372036854775808 ≤ z ∧ z ≤ 9223372036854775807 := by
  obtain ⟨⟨cs⟩, rfl, hsz⟩ := okWide_struct Tryz.underlying30 hv
  obtain ⟨fuel, hf⟩ := h
  obtain ⟨At, Ak, nt, nk, ct, ck, l, m, a, b, c, d, e, W', H', x, r, y, lt, lr, ld, e0, h1, h2⟩ := board_cells (cs := cs) (hsz.trans cellsBrd) hf
  exact ⟨At, Ak, nt, nk, ct, ck, l, m, a, b, c, d, e, W', H', x, r, y, lt, lr, ld, by rw [e0], h1, h2⟩

end Go.Proofs.YtfohhofpfmbheaaGreatDoor
