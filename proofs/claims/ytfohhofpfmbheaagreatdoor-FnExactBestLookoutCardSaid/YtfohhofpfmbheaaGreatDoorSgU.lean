/-
  Hexes that are on a board, both sides; whether a hex blocks, both sides' BlocksBetween. Nothing that was there is changed. The named variables hold what the program's text lays.
-/
import Derived.Test.YtfohhofpfmbheaaGreatDoorSgT
import Derived.Test.YtfohhofpfmbheaaGreatDoorQf
namespace Go.Proofs.YtfohhofpfmbheaaGreatDoor
open Go.RowKit

theorem brd_m {l : List Ter} {m : List Knd} {a b c d e W H : Int} {lt lr ld : List Int} (h : brdOk ⟨l, m, a, b, c, d, e⟩ W H lt lr ld = true) : 0 < m.length := (rulOk_nt (brdOk_rul h)).2.1
theorem onI_nat {l : List Ter} {m : List Knd} {a b c d e W H i : Int} {lt lr ld : List Int} (h : brdOk ⟨l, m, a, b, c, d, e⟩ W H lt lr ld = true) (hi : onI W H i = true) : ∃ j : Nat, i = j ∧ j < lt.length := onI_at hi (mapOk_len (brdOk_map h))
theorem bAt0_any (At Ak : Option Addr) (nt nk ct ck : Nat) (l : List Ter) (m : List Knd) (a b c d e W H : Int) (x r y : Value) (lt lr ld : List Int) (i : Int) (w : World) (hB : BrdAt w At Ak nt nk l m x r y lt lr ld) :
    Calls Tryz.prog 54 #[bv (.slice At nt ct) (.slice Ak nk ck) a b c d e W H x r y, .int .i64 0, .int .i64 i] w fun e' w' => e' = .returned (.bool (brdOk ⟨l, m, a, b, c, d, e⟩ W H lt lr ld && onI W H i)) ∧ Kp w w' := by
  have h1 := bAt_any At Ak nt nk ct ck l m a b c d e W H x r y lt lr ld 0 i w hB
  have hk := hB.R.rk.1
  have h2 : (brdOk ⟨l, m, a, b, c, d, e⟩ W H lt lr ld && inB 0 nk && onI W H i) = (brdOk ⟨l, m, a, b, c, d, e⟩ W H lt lr ld && onI W H i) := by
    cases hb : brdOk ⟨l, m, a, b, c, d, e⟩ W H lt lr ld
    · simp
    · have := brd_m hb
      have : inB 0 nk = true := by simp only [inB, Bool.and_eq_true, decide_eq_true_iff]; omega
      rw [this]
      simp
  rw [h2] at h1
  exact h1
set_option maxRecDepth 100000 in
set_option maxHeartbeats 4000000 in
theorem vPair_any (At Ak : Option Addr) (nt nk ct ck : Nat) (l : List Ter) (m : List Knd) (a b c d e W H : Int) (x r y : Value) (lt lr ld : List Int) (i k : Int) (w : World) (hB : BrdAt w At Ak nt nk l m x r y lt lr ld) :
    Calls Tryz.prog 39 #[bv (.slice At nt ct) (.slice Ak nk ck) a b c d e W H x r y, .int .i64 i, .int .i64 k] w fun e' w' => e' = .returned (.bool ((brdOk ⟨l, m, a, b, c, d, e⟩ W H lt lr ld && onI W H i) && onI W H k)) ∧ Kp w w' := by
  have s0 : (w.alloc (.cells #[.slice At nt ct, .slice Ak nk ck, .int .i64 a, .int .i64 b, .int .i64 c, .int .i64 d, .int .i64 e, .int .i64 W, .int .i64 H, x, r, y] 41)).cell? ⟨w.heap.size, 0, none⟩ = some (.slice At nt ct) ∧ (w.alloc (.cells #[.slice At nt ct, .slice Ak nk ck, .int .i64 a, .int .i64 b, .int .i64 c, .int .i64 d, .int .i64 e, .int .i64 W, .int .i64 H, x, r, y] 41)).cell? ⟨w.heap.size, 1, none⟩ = some (.slice Ak nk ck) ∧ (w.alloc (.cells #[.slice At nt ct, .slice Ak nk ck, .int .i64 a, .int .i64 b, .int .i64 c, .int .i64 d, .int .i64 e, .int .i64 W, .int .i64 H, x, r, y] 41)).cell? ⟨w.heap.size, 2, none⟩ = some (.int .i64 a) ∧ (w.alloc (.cells #[.slice At nt ct, .slice Ak nk ck, .int .i64 a, .int .i64 b, .int .i64 c, .int .i64 d, .int .i64 e, .int .i64 W, .int .i64 H, x, r, y] 41)).cell? ⟨w.heap.size, 3, none⟩ = some (.int .i64 b) ∧ (w.alloc (.cells #[.slice At nt ct, .slice Ak nk ck, .int .i64 a, .int .i64 b, .int .i64 c, .int .i64 d, .int .i64 e, .int .i64 W, .int .i64 H, x, r, y] 41)).cell? ⟨w.heap.size, 4, none⟩ = some (.int .i64 c) ∧ (w.alloc (.cells #[.slice At nt ct, .slice Ak nk ck, .int .i64 a, .int .i64 b, .int .i64 c, .int .i64 d, .int .i64 e, .int .i64 W, .int .i64 H, x, r, y] 41)).cell? ⟨w.heap.size, 5, none⟩ = some (.int .i64 d) ∧ (w.alloc (.cells #[.slice At nt ct, .slice Ak nk ck, .int .i64 a, .int .i64 b, .int .i64 c, .int .i64 d, .int .i64 e, .int .i64 W, .int .i64 H, x, r, y] 41)).cell? ⟨w.heap.size, 6, none⟩ = some (.int .i64 e) ∧ (w.alloc (.cells #[.slice At nt ct, .slice Ak nk ck, .int .i64 a, .int .i64 b, .int .i64 c, .int .i64 d, .int .i64 e, .int .i64 W, .int .i64 H, x, r, y] 41)).cell? ⟨w.heap.size, 7, none⟩ = some (.int .i64 W) ∧ (w.alloc (.cells #[.slice At nt ct, .slice Ak nk ck, .int .i64 a, .int .i64 b, .int .i64 c, .int .i64 d, .int .i64 e, .int .i64 W, .int .i64 H, x, r, y] 41)).cell? ⟨w.heap.size, 8, none⟩ = some (.int .i64 H) ∧ (w.alloc (.cells #[.slice At nt ct, .slice Ak nk ck, .int .i64 a, .int .i64 b, .int .i64 c, .int .i64 d, .int .i64 e, .int .i64 W, .int .i64 H, x, r, y] 41)).cell? ⟨w.heap.size, 9, none⟩ = some (x) ∧ (w.alloc (.cells #[.slice At nt ct, .slice Ak nk ck, .int .i64 a, .int .i64 b, .int .i64 c, .int .i64 d, .int .i64 e, .int .i64 W, .int .i64 H, x, r, y] 41)).cell? ⟨w.heap.size, 10, none⟩ = some (r) ∧ (w.alloc (.cells #[.slice At nt ct, .slice Ak nk ck, .int .i64 a, .int .i64 b, .int .i64 c, .int .i64 d, .int .i64 e, .int .i64 W, .int .i64 H, x, r, y] 41)).cell? ⟨w.heap.size, 11, none⟩ = some (y) ∧ Kp w (w.alloc (.cells #[.slice At nt ct, .slice Ak nk ck, .int .i64 a, .int .i64 b, .int .i64 c, .int .i64 d, .int .i64 e, .int .i64 W, .int .i64 H, x, r, y] 41)) := ⟨by simp [go_sem], by simp [go_sem], by simp [go_sem], by simp [go_sem], by simp [go_sem], by simp [go_sem], by simp [go_sem], by simp [go_sem], by simp [go_sem], by simp [go_sem], by simp [go_sem], by simp [go_sem], (Kp.refl w).alloc _⟩
  have HB := Lib.hid hB
  have C1 := Lib.hid (fun (w : World) hB => bAt0_any At Ak nt nk ct ck l m a b c d e W H x r y lt lr ld i w hB)
  have C2 := Lib.hid (fun (w : World) hB => bAt0_any At Ak nt nk ct ck l m a b c d e W H x r y lt lr ld k w hB)
  rw [show ((brdOk ⟨l, m, a, b, c, d, e⟩ W H lt lr ld && onI W H i) && onI W H k) = ((brdOk ⟨l, m, a, b, c, d, e⟩ W H lt lr ld && onI W H i) && (brdOk ⟨l, m, a, b, c, d, e⟩ W H lt lr ld && onI W H k)) by cases brdOk ⟨l, m, a, b, c, d, e⟩ W H lt lr ld <;> simp]
  generalize (brdOk ⟨l, m, a, b, c, d, e⟩ W H lt lr ld && onI W H i) = p at C1 ⊢
  generalize (brdOk ⟨l, m, a, b, c, d, e⟩ W H lt lr ld && onI W H k) = q at C2 ⊢
  clear hB
  cases p
  · go_enter Tryz.func39, Tryz.ntmps39
    go_wp2_with fail
    refine (C1.out _ (HB.out.keep s0.2.2.2.2.2.2.2.2.2.2.2.2)).mono ?_
    rintro e1 w1 ⟨rfl, k1⟩
    go_wp2_with fail
    go_ret
    exact ⟨rfl, s0.2.2.2.2.2.2.2.2.2.2.2.2.trans k1⟩
  · go_enter Tryz.func39, Tryz.ntmps39
    go_wp2_with fail
    refine (C1.out _ (HB.out.keep s0.2.2.2.2.2.2.2.2.2.2.2.2)).mono ?_
    rintro e1 w1 ⟨rfl, k1⟩
    have s1 := keep12k k1 s0
    clear s0
    go_wp2_with fail
    refine (C2.out _ (HB.out.keep s1.2.2.2.2.2.2.2.2.2.2.2.2)).mono ?_
    rintro e2 w2 ⟨rfl, k2⟩
    go_wp2_with fail
    go_ret
    exact ⟨by simp, s1.2.2.2.2.2.2.2.2.2.2.2.2.trans k2⟩



set_option maxRecDepth 100000 in
set_option maxHeartbeats 4000000 in
theorem areHexesOn_any (At Ak : Option Addr) (nt nk ct ck : Nat) (l : List Ter) (m : List Knd) (a b c d e W H : Int) (x r y : Value) (lt lr ld : List Int) (v : Value) (L : List Int) (w : World) (hs : Spans w) (ht : Tab w) (hB : BrdAt w At Ak nt nk l m x r y lt lr ld) (hL : RdI w v L) (hn : L.length ≤ 3) :
    Calls Tryz.prog 43 #[bv (.slice At nt ct) (.slice Ak nk ck) a b c d e W H x r y, v] w fun e' w' => e' = .returned (.bool (brdOk ⟨l, m, a, b, c, d, e⟩ W H lt lr ld && L.all (onI W H))) ∧ Kp w w' := by
  have s0 : (w.alloc (.cells #[.slice At nt ct, .slice Ak nk ck, .int .i64 a, .int .i64 b, .int .i64 c, .int .i64 d, .int .i64 e, .int .i64 W, .int .i64 H, x, r, y] 41)).cell? ⟨w.heap.size, 0, none⟩ = some (.slice At nt ct) ∧ (w.alloc (.cells #[.slice At nt ct, .slice Ak nk ck, .int .i64 a, .int .i64 b, .int .i64 c, .int .i64 d, .int .i64 e, .int .i64 W, .int .i64 H, x, r, y] 41)).cell? ⟨w.heap.size, 1, none⟩ = some (.slice Ak nk ck) ∧ (w.alloc (.cells #[.slice At nt ct, .slice Ak nk ck, .int .i64 a, .int .i64 b, .int .i64 c, .int .i64 d, .int .i64 e, .int .i64 W, .int .i64 H, x, r, y] 41)).cell? ⟨w.heap.size, 2, none⟩ = some (.int .i64 a) ∧ (w.alloc (.cells #[.slice At nt ct, .slice Ak nk ck, .int .i64 a, .int .i64 b, .int .i64 c, .int .i64 d, .int .i64 e, .int .i64 W, .int .i64 H, x, r, y] 41)).cell? ⟨w.heap.size, 3, none⟩ = some (.int .i64 b) ∧ (w.alloc (.cells #[.slice At nt ct, .slice Ak nk ck, .int .i64 a, .int .i64 b, .int .i64 c, .int .i64 d, .int .i64 e, .int .i64 W, .int .i64 H, x, r, y] 41)).cell? ⟨w.heap.size, 4, none⟩ = some (.int .i64 c) ∧ (w.alloc (.cells #[.slice At nt ct, .slice Ak nk ck, .int .i64 a, .int .i64 b, .int .i64 c, .int .i64 d, .int .i64 e, .int .i64 W, .int .i64 H, x, r, y] 41)).cell? ⟨w.heap.size, 5, none⟩ = some (.int .i64 d) ∧ (w.alloc (.cells #[.slice At nt ct, .slice Ak nk ck, .int .i64 a, .int .i64 b, .int .i64 c, .int .i64 d, .int .i64 e, .int .i64 W, .int .i64 H, x, r, y] 41)).cell? ⟨w.heap.size, 6, none⟩ = some (.int .i64 e) ∧ (w.alloc (.cells #[.slice At nt ct, .slice Ak nk ck, .int .i64 a, .int .i64 b, .int .i64 c, .int .i64 d, .int .i64 e, .int .i64 W, .int .i64 H, x, r, y] 41)).cell? ⟨w.heap.size, 7, none⟩ = some (.int .i64 W) ∧ (w.alloc (.cells #[.slice At nt ct, .slice Ak nk ck, .int .i64 a, .int .i64 b, .int .i64 c, .int .i64 d, .int .i64 e, .int .i64 W, .int .i64 H, x, r, y] 41)).cell? ⟨w.heap.size, 8, none⟩ = some (.int .i64 H) ∧ (w.alloc (.cells #[.slice At nt ct, .slice Ak nk ck, .int .i64 a, .int .i64 b, .int .i64 c, .int .i64 d, .int .i64 e, .int .i64 W, .int .i64 H, x, r, y] 41)).cell? ⟨w.heap.size, 9, none⟩ = some (x) ∧ (w.alloc (.cells #[.slice At nt ct, .slice Ak nk ck, .int .i64 a, .int .i64 b, .int .i64 c, .int .i64 d, .int .i64 e, .int .i64 W, .int .i64 H, x, r, y] 41)).cell? ⟨w.heap.size, 10, none⟩ = some (r) ∧ (w.alloc (.cells #[.slice At nt ct, .slice Ak nk ck, .int .i64 a, .int .i64 b, .int .i64 c, .int .i64 d, .int .i64 e, .int .i64 W, .int .i64 H, x, r, y] 41)).cell? ⟨w.heap.size, 11, none⟩ = some (y) ∧ Kp w (w.alloc (.cells #[.slice At nt ct, .slice Ak nk ck, .int .i64 a, .int .i64 b, .int .i64 c, .int .i64 d, .int .i64 e, .int .i64 W, .int .i64 H, x, r, y] 41)) := ⟨by simp [go_sem], by simp [go_sem], by simp [go_sem], by simp [go_sem], by simp [go_sem], by simp [go_sem], by simp [go_sem], by simp [go_sem], by simp [go_sem], by simp [go_sem], by simp [go_sem], by simp [go_sem], (Kp.refl w).alloc _⟩
  have C1 : Hid (Calls Tryz.prog 78 #[bv (.slice At nt ct) (.slice Ak nk ck) a b c d e W H x r y] (w.alloc (.cells #[.slice At nt ct, .slice Ak nk ck, .int .i64 a, .int .i64 b, .int .i64 c, .int .i64 d, .int .i64 e, .int .i64 W, .int .i64 H, x, r, y] 41)) fun e' w' => e' = .returned (.bool (brdOk ⟨l, m, a, b, c, d, e⟩ W H lt lr ld)) ∧ Kp (w.alloc (.cells #[.slice At nt ct, .slice Ak nk ck, .int .i64 a, .int .i64 b, .int .i64 c, .int .i64 d, .int .i64 e, .int .i64 W, .int .i64 H, x, r, y] 41)) w') := Lib.hid (isBoard_any At Ak nt nk ct ck l m a b c d e W H x r y lt lr ld _ (hs.keep s0.2.2.2.2.2.2.2.2.2.2.2.2) (ht.keep s0.2.2.2.2.2.2.2.2.2.2.2.2) (hB.keep s0.2.2.2.2.2.2.2.2.2.2.2.2))
  have HL := Lib.hid hL
  cases hok : brdOk ⟨l, m, a, b, c, d, e⟩ W H lt lr ld
  · rw [hok] at C1
    clear hs ht hB hL hok
    go_enter Tryz.func43, Tryz.ntmps43
    go_wp2_with fail
    refine C1.out.mono ?_
    rintro e1 w1 ⟨rfl, k1⟩
    go_wp2_with fail
    go_ret
    exact ⟨ret_bool (by simp), s0.2.2.2.2.2.2.2.2.2.2.2.2.trans k1⟩
  · rw [hok] at C1
    obtain ⟨p1, p2, p3, p4⟩ := mapOk_side (brdOk_map hok)
    have CI : Hid (∀ (j : Int) (w : World), Calls Tryz.prog 61 #[mp W H x r y, .int .i64 j] w fun e' w' => e' = .returned (.bool (onI W H j)) ∧ Kp w w') := Lib.hid fun j w => isIndex_any W H x r y j w p1 p2 p3 p4
    obtain ⟨A, cp, rfl, hcv⟩ := hL
    have HV := Lib.hid hcv
    obtain ⟨n, hn'⟩ : ∃ n, n = L.length := ⟨_, rfl⟩
    have HN := Lib.hid hn'
    rw [← hn'] at hn HV ⊢
    generalize onI W H = f at CI ⊢
    clear hs ht hB hok hcv hn' HL p1 p2 p3 p4
    go_enter Tryz.func43, Tryz.ntmps43
    go_wp2_with fail
    refine C1.out.mono ?_
    rintro e1 w1 ⟨rfl, k1⟩
    have s1 := keep12k k1 s0
    clear s0 C1
    go_wp2_with fail
    go_loopw [6, 12] (fun _ sq wx => ∃ q : Nat, q ≤ n ∧ sq = .int .i64 q ∧ Hid ((L.take q).all f = true) ∧ wx.cell? ⟨w.heap.size, 0, none⟩ = some (.slice At nt ct) ∧ wx.cell? ⟨w.heap.size, 1, none⟩ = some (.slice Ak nk ck) ∧ wx.cell? ⟨w.heap.size, 2, none⟩ = some (.int .i64 a) ∧ wx.cell? ⟨w.heap.size, 3, none⟩ = some (.int .i64 b) ∧ wx.cell? ⟨w.heap.size, 4, none⟩ = some (.int .i64 c) ∧ wx.cell? ⟨w.heap.size, 5, none⟩ = some (.int .i64 d) ∧ wx.cell? ⟨w.heap.size, 6, none⟩ = some (.int .i64 e) ∧ wx.cell? ⟨w.heap.size, 7, none⟩ = some (.int .i64 W) ∧ wx.cell? ⟨w.heap.size, 8, none⟩ = some (.int .i64 H) ∧ wx.cell? ⟨w.heap.size, 9, none⟩ = some (x) ∧ wx.cell? ⟨w.heap.size, 10, none⟩ = some (r) ∧ wx.cell? ⟨w.heap.size, 11, none⟩ = some (y) ∧ Kp w wx) (fun _ sq _ => n - (intOf sq).toNat)
    case atStart => exact ⟨0, by omega, rfl, Lib.hid (by simp), s1⟩
    case round =>
      clear s1
      obtain ⟨q, hqn, rfl, HA, sr⟩ := hrel
      by_cases hlt : q < n
      · have hlt' : (q : Int) < n := by omega
        obtain ⟨g, off, rfl, hc⟩ := HV.out (by omega)
        obtain ⟨i, hi⟩ : ∃ i, L[q]? = some i := ⟨L[q]'(by have := HN.out; omega), List.getElem?_eq_getElem _⟩
        have a0 := sr.2.2.2.2.2.2.2.2.2.2.2.2.cell (hc q i hi)
        have HI := Lib.hid hi
        cases hf : f i
        · have CI2 := Lib.hid (CI.out i)
          rw [hf] at CI2
          have HF : Hid (L.all f = false) := Lib.hid (by
            rw [List.all_eq_false]
            exact ⟨i, List.mem_of_getElem? hi, by rw [hf]; simp⟩)
          clear hc hi hf
          go_wp2_with fail
          refine (CI2.out _).mono ?_
          rintro e2 w2 ⟨rfl, k2⟩
          go_wp2_with fail
          go_ret
          exact ⟨ret_bool (by rw [HF.out]; rfl), sr.2.2.2.2.2.2.2.2.2.2.2.2.trans k2⟩
        · have CI2 := Lib.hid (CI.out i)
          rw [hf] at CI2
          have HF : Hid ((L.take (q + 1)).all f = true) := Lib.hid (by
            rw [List.take_add_one, hi, List.all_append, HA.out]
            simpa using hf)
          clear hc hi hf
          go_wp2_with fail
          refine (CI2.out _).mono ?_
          rintro e2 w2 ⟨rfl, k2⟩
          have s2 := keep12k k2 sr
          clear sr
          go_wp2_with fail
          go_roundw
          case rel => exact ⟨q + 1, by omega, by go_num, HF, s2⟩
          case measure => simp [intOf]; omega
      · obtain rfl : q = n := by omega
        have HF : Hid (L.all f = true) := Lib.hid (by have := HA.out; rwa [HN.out, List.take_length] at this)
        go_wp2_with fail
        go_ret
        exact ⟨ret_bool (by rw [HF.out]; rfl), sr.2.2.2.2.2.2.2.2.2.2.2.2⟩
theorem rd_three (w : World) (x y z : Int) (T : TypeId) : RdI (w.alloc (.cells #[.int .i64 x, .int .i64 y, .int .i64 z] T)) (.slice (some ⟨w.heap.size, 0, none⟩) 3 3) [x, y, z] := by
  refine ⟨_, _, rfl, fun _ => ⟨_, _, rfl, fun i u hu => ?_⟩⟩
  match i, hu with
  | 0, hu => simp at hu; subst hu; simp [go_sem]
  | 1, hu => simp at hu; subst hu; simp [go_sem]
  | 2, hu => simp at hu; subst hu; simp [go_sem]

end Go.Proofs.YtfohhofpfmbheaaGreatDoor
