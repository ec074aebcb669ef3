/-
  Hexes that are on a board, both sides. Nothing that was there is changed. The named variables hold what the program's text lays.
-/
import Derived.Test.YtngifnnpimfimaaDoorCsP
import Derived.StillTailTactics
import Derived.Deep.Cut
import Derived.Maps.AppendAt
import Derived.Test.YtngifnnpimfimaaDoorQa
import Derived.Test.YtngifnnpimfimaaDoorQj
import Derived.Test.YtngifnnpimfimaaDoorQl
import Derived.Test.YtngifnnpimfimaaDoorQa
namespace Go.Proofs.YtngifnnpimfimaaDoor
open Go.RowKit

theorem keepa12 {W0 w w1 : World} {p0 p1 p2 p3 p4 p5 p6 p7 p8 p9 p10 p11 : Addr} {v0 v1 v2 v3 v4 v5 v6 v7 v8 v9 v10 v11 : Value} (k : Kp w w1) (h : w.cell? p0 = some v0 ∧ w.cell? p1 = some v1 ∧ w.cell? p2 = some v2 ∧ w.cell? p3 = some v3 ∧ w.cell? p4 = some v4 ∧ w.cell? p5 = some v5 ∧ w.cell? p6 = some v6 ∧ w.cell? p7 = some v7 ∧ w.cell? p8 = some v8 ∧ w.cell? p9 = some v9 ∧ w.cell? p10 = some v10 ∧ w.cell? p11 = some v11 ∧ Kp W0 w) : w1.cell? p0 = some v0 ∧ w1.cell? p1 = some v1 ∧ w1.cell? p2 = some v2 ∧ w1.cell? p3 = some v3 ∧ w1.cell? p4 = some v4 ∧ w1.cell? p5 = some v5 ∧ w1.cell? p6 = some v6 ∧ w1.cell? p7 = some v7 ∧ w1.cell? p8 = some v8 ∧ w1.cell? p9 = some v9 ∧ w1.cell? p10 = some v10 ∧ w1.cell? p11 = some v11 ∧ Kp W0 w1 :=
  ⟨k.cell h.1, k.cell h.2.1, k.cell h.2.2.1, k.cell h.2.2.2.1, k.cell h.2.2.2.2.1, k.cell h.2.2.2.2.2.1, k.cell h.2.2.2.2.2.2.1, k.cell h.2.2.2.2.2.2.2.1, k.cell h.2.2.2.2.2.2.2.2.1, k.cell h.2.2.2.2.2.2.2.2.2.1, k.cell h.2.2.2.2.2.2.2.2.2.2.1, k.cell h.2.2.2.2.2.2.2.2.2.2.2.1, h.2.2.2.2.2.2.2.2.2.2.2.2.trans k⟩
theorem drewa12 {W0 w : World} {p0 p1 p2 p3 p4 p5 p6 p7 p8 p9 p10 p11 : Addr} {v0 v1 v2 v3 v4 v5 v6 v7 v8 v9 v10 v11 : Value} (h : w.cell? p0 = some v0 ∧ w.cell? p1 = some v1 ∧ w.cell? p2 = some v2 ∧ w.cell? p3 = some v3 ∧ w.cell? p4 = some v4 ∧ w.cell? p5 = some v5 ∧ w.cell? p6 = some v6 ∧ w.cell? p7 = some v7 ∧ w.cell? p8 = some v8 ∧ w.cell? p9 = some v9 ∧ w.cell? p10 = some v10 ∧ w.cell? p11 = some v11 ∧ Kp W0 w) : w.drew.cell? p0 = some v0 ∧ w.drew.cell? p1 = some v1 ∧ w.drew.cell? p2 = some v2 ∧ w.drew.cell? p3 = some v3 ∧ w.drew.cell? p4 = some v4 ∧ w.drew.cell? p5 = some v5 ∧ w.drew.cell? p6 = some v6 ∧ w.drew.cell? p7 = some v7 ∧ w.drew.cell? p8 = some v8 ∧ w.drew.cell? p9 = some v9 ∧ w.drew.cell? p10 = some v10 ∧ w.drew.cell? p11 = some v11 ∧ Kp W0 w.drew :=
  ⟨h.1, h.2.1, h.2.2.1, h.2.2.2.1, h.2.2.2.2.1, h.2.2.2.2.2.1, h.2.2.2.2.2.2.1, h.2.2.2.2.2.2.2.1, h.2.2.2.2.2.2.2.2.1, h.2.2.2.2.2.2.2.2.2.1, h.2.2.2.2.2.2.2.2.2.2.1, h.2.2.2.2.2.2.2.2.2.2.2.1, h.2.2.2.2.2.2.2.2.2.2.2.2.drew⟩
theorem brdX_m {l : List Ter} {m : List Knd} {a b c d e W H : Int} {lt lr ld : List Int} (h : brdOk ⟨l, m, a, b, c, d, e⟩ W H lt lr ld = true) : 0 < m.length := (rulOk_nt (brdOk_rul h)).2.1
set_option maxRecDepth 100000 in
set_option maxHeartbeats 4000000 in
theorem areHexesX_any (At Ak : Option Addr) (nt nk ct ck : Nat) (l : List Ter) (m : List Knd) (a b c d e W H : Int) (x r y : Value) (lt lr ld : List Int) (v : Value) (L : List Int) (w : World) (hs : Spans w) (ht : Tab w) (hB : BrdAt w At Ak nt nk l m x r y lt lr ld) (hL : RdI w v L) (hn : L.length ≤ 3) :
    Calls Tryd.prog 47 #[bv (.slice At nt ct) (.slice Ak nk ck) a b c d e W H x r y, v] w fun e' w' => e' = .returned (.bool (brdOk ⟨l, m, a, b, c, d, e⟩ W H lt lr ld && L.all (onI W H))) ∧ Kp w w' := by
  have s0 : cb12 (w.alloc (.cells #[.slice At nt ct, .slice Ak nk ck, .int .i64 a, .int .i64 b, .int .i64 c, .int .i64 d, .int .i64 e, .int .i64 W, .int .i64 H, x, r, y] 42)) (w.heap.size) (.slice At nt ct) (.slice Ak nk ck) (.int .i64 a) (.int .i64 b) (.int .i64 c) (.int .i64 d) (.int .i64 e) (.int .i64 W) (.int .i64 H) (x) (r) (y) (Kp w (w.alloc (.cells #[.slice At nt ct, .slice Ak nk ck, .int .i64 a, .int .i64 b, .int .i64 c, .int .i64 d, .int .i64 e, .int .i64 W, .int .i64 H, x, r, y] 42))) := ⟨by simp [go_sem], by simp [go_sem], by simp [go_sem], by simp [go_sem], by simp [go_sem], by simp [go_sem], by simp [go_sem], by simp [go_sem], by simp [go_sem], by simp [go_sem], by simp [go_sem], by simp [go_sem], (Kp.refl w).alloc _⟩
  have C1 : Hid (Calls Tryd.prog 79 #[bv (.slice At nt ct) (.slice Ak nk ck) a b c d e W H x r y] (w.alloc (.cells #[.slice At nt ct, .slice Ak nk ck, .int .i64 a, .int .i64 b, .int .i64 c, .int .i64 d, .int .i64 e, .int .i64 W, .int .i64 H, x, r, y] 42)) fun e' w' => e' = .returned (.bool (brdOk ⟨l, m, a, b, c, d, e⟩ W H lt lr ld)) ∧ Kp (w.alloc (.cells #[.slice At nt ct, .slice Ak nk ck, .int .i64 a, .int .i64 b, .int .i64 c, .int .i64 d, .int .i64 e, .int .i64 W, .int .i64 H, x, r, y] 42)) w') := Lib.hid (isBoard_any At Ak nt nk ct ck l m a b c d e W H x r y lt lr ld _ (hs.keep s0.2.2.2.2.2.2.2.2.2.2.2.2) (ht.keep s0.2.2.2.2.2.2.2.2.2.2.2.2) (hB.keep s0.2.2.2.2.2.2.2.2.2.2.2.2))
  have HL := Lib.hid hL
  cases hok : brdOk ⟨l, m, a, b, c, d, e⟩ W H lt lr ld
  · rw [hok] at C1
    clear hs ht hB hL hok
    go_enter Tryd.func47, Tryd.ntmps47
    go_wp2_with fail
    refine C1.out.mono ?_
    rintro e1 w1 ⟨rfl, k1⟩
    go_wp2_with fail
    go_ret
    exact ⟨ret_bool (by simp), s0.2.2.2.2.2.2.2.2.2.2.2.2.trans k1⟩
  · rw [hok] at C1
    obtain ⟨p1, p2, p3, p4⟩ := mapOk_side (brdOk_map hok)
    have CI : Hid (∀ (j : Int) (w : World), Calls Tryd.prog 70 #[mp W H x r y, .int .i64 j] w fun e' w' => e' = .returned (.bool (onI W H j)) ∧ Kp w w') := Lib.hid fun j w => isIndex_any W H x r y j w p1 p2 p3 p4
    obtain ⟨A, cp, rfl, hcv⟩ := hL
    have HV := Lib.hid hcv
    obtain ⟨n, hn'⟩ : ∃ n, n = L.length := ⟨_, rfl⟩
    have HN := Lib.hid hn'
    rw [← hn'] at hn HV ⊢
    generalize onI W H = f at CI ⊢
    clear hs ht hB hok hcv hn' HL p1 p2 p3 p4
    go_enter Tryd.func47, Tryd.ntmps47
    go_wp2_with fail
    refine C1.out.mono ?_
    rintro e1 w1 ⟨rfl, k1⟩
    have s1 := keepa12 k1 s0
    clear s0 C1
    go_wp2_with fail
    go_loopw [6, 12] (fun _ sq wx => ∃ q : Nat, q ≤ n ∧ sq = .int .i64 q ∧ Hid ((L.take q).all f = true) ∧ cb12 wx (w.heap.size) (.slice At nt ct) (.slice Ak nk ck) (.int .i64 a) (.int .i64 b) (.int .i64 c) (.int .i64 d) (.int .i64 e) (.int .i64 W) (.int .i64 H) (x) (r) (y) (Kp w wx)) (fun _ sq _ => n - (intOf sq).toNat)
    case atStart => exact ⟨0, by omega, rfl, Lib.hid (by simp), s1⟩
    case round =>
      clear s1
      obtain ⟨q, hqn, rfl, HA, sr⟩ := hrel
      by_cases hlt : q < n
      · have hlt' : (q : Int) < n := by omega
        obtain ⟨g, off, rfl, hc⟩ := HV.out (by omega)
        obtain ⟨i, hi⟩ : ∃ i, L[q]? = some i := ⟨L[q]'(by have := HN.out; omega), List.getElem?_eq_getElem _⟩
        have a0 := sr.2.2.2.2.2.2.2.2.2.2.2.2.cell (hc q i hi)
        have HI := Lib.hid hi
        cases hf : f i
        · have CI2 := Lib.hid (CI.out i)
          rw [hf] at CI2
          have HF : Hid (L.all f = false) := Lib.hid (by
            rw [List.all_eq_false]
            exact ⟨i, List.mem_of_getElem? hi, by rw [hf]; simp⟩)
          clear hc hi hf
          go_wp2_with fail
          refine (CI2.out _).mono ?_
          rintro e2 w2 ⟨rfl, k2⟩
          go_wp2_with fail
          go_ret
          exact ⟨ret_bool (by rw [HF.out]; rfl), sr.2.2.2.2.2.2.2.2.2.2.2.2.trans k2⟩
        · have CI2 := Lib.hid (CI.out i)
          rw [hf] at CI2
          have HF : Hid ((L.take (q + 1)).all f = true) := Lib.hid (by
            rw [List.take_add_one, hi, List.all_append, HA.out]
            simpa using hf)
          clear hc hi hf
          go_wp2_with fail
          refine (CI2.out _).mono ?_
          rintro e2 w2 ⟨rfl, k2⟩
          have s2 := keepa12 k2 sr
          clear sr
          go_wp2_with fail
          go_roundw
          case rel => exact ⟨q + 1, by omega, by go_num, HF, s2⟩
          case measure => simp [intOf]; omega
      · obtain rfl : q = n := by omega
        have HF : Hid (L.all f = true) := Lib.hid (by have := HA.out; rwa [HN.out, List.take_length] at this)
        go_wp2_with fail
        go_ret
        exact ⟨ret_bool (by rw [HF.out]; rfl), sr.2.2.2.2.2.2.2.2.2.2.2.2⟩
theorem areOneX_any (At Ak : Option Addr) (nt nk ct ck : Nat) (l : List Ter) (m : List Knd) (a b c d e W H : Int) (x r y : Value) (lt lr ld : List Int) (i : Int) (w : World) (hs : Spans w) (ht : Tab w) (hB : BrdAt w At Ak nt nk l m x r y lt lr ld) :
    Calls Tryd.prog 47 #[bv (.slice At nt ct) (.slice Ak nk ck) a b c d e W H x r y, .slice (some ⟨w.heap.size + 1, 0, none⟩) 1 1] ((w.alloc (.cells #[.slice At nt ct, .slice Ak nk ck, .int .i64 a, .int .i64 b, .int .i64 c, .int .i64 d, .int .i64 e, .int .i64 W, .int .i64 H, x, r, y] 42)).alloc (.cells #[.int .i64 i] 3)) fun e' w' => e' = .returned (.bool (brdOk ⟨l, m, a, b, c, d, e⟩ W H lt lr ld && onI W H i)) ∧ Kp ((w.alloc (.cells #[.slice At nt ct, .slice Ak nk ck, .int .i64 a, .int .i64 b, .int .i64 c, .int .i64 d, .int .i64 e, .int .i64 W, .int .i64 H, x, r, y] 42)).alloc (.cells #[.int .i64 i] 3)) w' := by
  have k1 : Kp w ((w.alloc (.cells #[.slice At nt ct, .slice Ak nk ck, .int .i64 a, .int .i64 b, .int .i64 c, .int .i64 d, .int .i64 e, .int .i64 W, .int .i64 H, x, r, y] 42)).alloc (.cells #[.int .i64 i] 3)) := ((Kp.refl w).alloc _).alloc _
  have := areHexesX_any At Ak nt nk ct ck l m a b c d e W H x r y lt lr ld (.slice (some ⟨w.heap.size + 1, 0, none⟩) 1 1) [i] ((w.alloc (.cells #[.slice At nt ct, .slice Ak nk ck, .int .i64 a, .int .i64 b, .int .i64 c, .int .i64 d, .int .i64 e, .int .i64 W, .int .i64 H, x, r, y] 42)).alloc (.cells #[.int .i64 i] 3)) (hs.keep k1) (ht.keep k1) (hB.keep k1) (by have := rd_one (w.alloc (.cells #[.slice At nt ct, .slice Ak nk ck, .int .i64 a, .int .i64 b, .int .i64 c, .int .i64 d, .int .i64 e, .int .i64 W, .int .i64 H, x, r, y] 42)) i 3; simpa using this) (by simp)
  rw [show (brdOk ⟨l, m, a, b, c, d, e⟩ W H lt lr ld && onI W H i) = (brdOk ⟨l, m, a, b, c, d, e⟩ W H lt lr ld && [i].all (onI W H)) by simp [List.all]]
  exact this

theorem bAt0X_any (At Ak : Option Addr) (nt nk ct ck : Nat) (l : List Ter) (m : List Knd) (a b c d e W H : Int) (x r y : Value) (lt lr ld : List Int) (i : Int) (w : World) (hB : BrdAt w At Ak nt nk l m x r y lt lr ld) :
    Calls Tryd.prog 44 #[bv (.slice At nt ct) (.slice Ak nk ck) a b c d e W H x r y, .int .i64 0, .int .i64 i] w fun e' w' => e' = .returned (.bool (brdOk ⟨l, m, a, b, c, d, e⟩ W H lt lr ld && onI W H i)) ∧ Kp w w' := by
  have h1 := bAt_any At Ak nt nk ct ck l m a b c d e W H x r y lt lr ld 0 i w hB
  have hk := hB.R.rk.1
  have h2 : (brdOk ⟨l, m, a, b, c, d, e⟩ W H lt lr ld && inB 0 nk && onI W H i) = (brdOk ⟨l, m, a, b, c, d, e⟩ W H lt lr ld && onI W H i) := by
    cases hb : brdOk ⟨l, m, a, b, c, d, e⟩ W H lt lr ld
    · simp
    · have := brdX_m hb
      have : inB 0 nk = true := by simp only [inB, Bool.and_eq_true, decide_eq_true_iff]; omega
      rw [this]
      simp
  rw [h2] at h1
  exact h1

end Go.Proofs.YtngifnnpimfimaaDoor
