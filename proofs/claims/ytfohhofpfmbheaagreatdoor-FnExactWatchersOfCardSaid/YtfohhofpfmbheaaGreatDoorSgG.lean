/-
  Counts of hexes that block, the first cell that blocks, and the code of a sight, as the reference tells them. Nothing that was there is changed.
-/
import Derived.Test.YtfohhofpfmbheaaGreatDoorSgD
import Derived.Test.YtfohhofpfmbheaaGreatDoorSgE
namespace Go.Proofs.YtfohhofpfmbheaaGreatDoor
open Go.RowKit


set_option maxRecDepth 100000 in
set_option maxHeartbeats 4000000 in
theorem vCount_any (At Ak : Option Addr) (nt nk ct ck : Nat) (l : List Ter) (m : List Knd) (a b c d e W H : Int) (x r y : Value) (lt lr ld : List Int) (i k : Int) (v : Value) (cl : List Int) (w : World) (hB : BrdAt w At Ak nt nk l m x r y lt lr ld) (hok : brdOk ⟨l, m, a, b, c, d, e⟩ W H lt lr ld = true) (hi : onI W H i = true) (hk : onI W H k = true) (hcl : ∀ x ∈ cl, ∃ z : Nat, z < lt.length ∧ x = z) (hr : RdI w v cl) (hl : cl.length ≤ 2) :
    Calls Tryz.prog 86 #[bv (.slice At nt ct) (.slice Ak nk ck) a b c d e W H x r y, .int .i64 i, .int .i64 k, v] w fun e' w' => e' = .returned (.int .i64 (cntC (blkI l lt i k) cl 0)) ∧ Kp w w' := by
  have s0 : (w.alloc (.cells #[.slice At nt ct, .slice Ak nk ck, .int .i64 a, .int .i64 b, .int .i64 c, .int .i64 d, .int .i64 e, .int .i64 W, .int .i64 H, x, r, y] 41)).cell? ⟨w.heap.size, 0, none⟩ = some (.slice At nt ct) ∧ (w.alloc (.cells #[.slice At nt ct, .slice Ak nk ck, .int .i64 a, .int .i64 b, .int .i64 c, .int .i64 d, .int .i64 e, .int .i64 W, .int .i64 H, x, r, y] 41)).cell? ⟨w.heap.size, 1, none⟩ = some (.slice Ak nk ck) ∧ (w.alloc (.cells #[.slice At nt ct, .slice Ak nk ck, .int .i64 a, .int .i64 b, .int .i64 c, .int .i64 d, .int .i64 e, .int .i64 W, .int .i64 H, x, r, y] 41)).cell? ⟨w.heap.size, 2, none⟩ = some (.int .i64 a) ∧ (w.alloc (.cells #[.slice At nt ct, .slice Ak nk ck, .int .i64 a, .int .i64 b, .int .i64 c, .int .i64 d, .int .i64 e, .int .i64 W, .int .i64 H, x, r, y] 41)).cell? ⟨w.heap.size, 3, none⟩ = some (.int .i64 b) ∧ (w.alloc (.cells #[.slice At nt ct, .slice Ak nk ck, .int .i64 a, .int .i64 b, .int .i64 c, .int .i64 d, .int .i64 e, .int .i64 W, .int .i64 H, x, r, y] 41)).cell? ⟨w.heap.size, 4, none⟩ = some (.int .i64 c) ∧ (w.alloc (.cells #[.slice At nt ct, .slice Ak nk ck, .int .i64 a, .int .i64 b, .int .i64 c, .int .i64 d, .int .i64 e, .int .i64 W, .int .i64 H, x, r, y] 41)).cell? ⟨w.heap.size, 5, none⟩ = some (.int .i64 d) ∧ (w.alloc (.cells #[.slice At nt ct, .slice Ak nk ck, .int .i64 a, .int .i64 b, .int .i64 c, .int .i64 d, .int .i64 e, .int .i64 W, .int .i64 H, x, r, y] 41)).cell? ⟨w.heap.size, 6, none⟩ = some (.int .i64 e) ∧ (w.alloc (.cells #[.slice At nt ct, .slice Ak nk ck, .int .i64 a, .int .i64 b, .int .i64 c, .int .i64 d, .int .i64 e, .int .i64 W, .int .i64 H, x, r, y] 41)).cell? ⟨w.heap.size, 7, none⟩ = some (.int .i64 W) ∧ (w.alloc (.cells #[.slice At nt ct, .slice Ak nk ck, .int .i64 a, .int .i64 b, .int .i64 c, .int .i64 d, .int .i64 e, .int .i64 W, .int .i64 H, x, r, y] 41)).cell? ⟨w.heap.size, 8, none⟩ = some (.int .i64 H) ∧ (w.alloc (.cells #[.slice At nt ct, .slice Ak nk ck, .int .i64 a, .int .i64 b, .int .i64 c, .int .i64 d, .int .i64 e, .int .i64 W, .int .i64 H, x, r, y] 41)).cell? ⟨w.heap.size, 9, none⟩ = some (x) ∧ (w.alloc (.cells #[.slice At nt ct, .slice Ak nk ck, .int .i64 a, .int .i64 b, .int .i64 c, .int .i64 d, .int .i64 e, .int .i64 W, .int .i64 H, x, r, y] 41)).cell? ⟨w.heap.size, 10, none⟩ = some (r) ∧ (w.alloc (.cells #[.slice At nt ct, .slice Ak nk ck, .int .i64 a, .int .i64 b, .int .i64 c, .int .i64 d, .int .i64 e, .int .i64 W, .int .i64 H, x, r, y] 41)).cell? ⟨w.heap.size, 11, none⟩ = some (y) ∧ Kp w (w.alloc (.cells #[.slice At nt ct, .slice Ak nk ck, .int .i64 a, .int .i64 b, .int .i64 c, .int .i64 d, .int .i64 e, .int .i64 W, .int .i64 H, x, r, y] 41)) := ⟨by simp [go_sem], by simp [go_sem], by simp [go_sem], by simp [go_sem], by simp [go_sem], by simp [go_sem], by simp [go_sem], by simp [go_sem], by simp [go_sem], by simp [go_sem], by simp [go_sem], by simp [go_sem], (Kp.refl w).alloc _⟩
  have HB := Lib.hid hB
  have CV : Hid (∀ z ∈ cl, ∀ w, BrdAt w At Ak nt nk l m x r y lt lr ld → Calls Tryz.prog 113 #[bv (.slice At nt ct) (.slice Ak nk ck) a b c d e W H x r y, .int .i64 i, .int .i64 k, .int .i64 z] w fun e' w' => e' = .returned (.bool (blkI l lt i k z)) ∧ Kp w w') := Lib.hid fun z hz w hB => by
    obtain ⟨i', rfl, hi'⟩ := onI_nat hok hi
    obtain ⟨k', rfl, hk'⟩ := onI_nat hok hk
    obtain ⟨z', hz', rfl⟩ := hcl z hz
    exact vBlocks_any At Ak nt nk ct ck l m a b c d e W H x r y lt lr ld i' k' z' w hB hok (brd_m hok) hi' hk' hz'
  generalize blkI l lt i k = p at CV ⊢
  obtain ⟨A, cp, rfl, hc⟩ := hr
  have HV := Lib.hid hc
  obtain ⟨n, hn⟩ : ∃ n, n = cl.length := ⟨_, rfl⟩
  have HN := Lib.hid hn
  rw [← hn] at hl HV ⊢
  obtain ⟨R, hR⟩ : ∃ R, R = cntC p cl 0 := ⟨_, rfl⟩
  have HR := Lib.hid hR
  rw [← hR]
  clear hB hok hi hk hcl hc hn hR
  go_enter Tryz.func86, Tryz.ntmps86
  go_wp2_with fail
  go_loopw [9, 11, 14] (fun s9 _ s14 wr => ∃ (q : Nat) (M : Int), q ≤ n ∧ s14 = .int .i64 q ∧ s9 = .int .i64 M ∧ (0 ≤ M ∧ M ≤ q) ∧ Hid (cntC p (cl.drop q) M = R) ∧ wr.cell? ⟨w.heap.size, 0, none⟩ = some (.slice At nt ct) ∧ wr.cell? ⟨w.heap.size, 1, none⟩ = some (.slice Ak nk ck) ∧ wr.cell? ⟨w.heap.size, 2, none⟩ = some (.int .i64 a) ∧ wr.cell? ⟨w.heap.size, 3, none⟩ = some (.int .i64 b) ∧ wr.cell? ⟨w.heap.size, 4, none⟩ = some (.int .i64 c) ∧ wr.cell? ⟨w.heap.size, 5, none⟩ = some (.int .i64 d) ∧ wr.cell? ⟨w.heap.size, 6, none⟩ = some (.int .i64 e) ∧ wr.cell? ⟨w.heap.size, 7, none⟩ = some (.int .i64 W) ∧ wr.cell? ⟨w.heap.size, 8, none⟩ = some (.int .i64 H) ∧ wr.cell? ⟨w.heap.size, 9, none⟩ = some (x) ∧ wr.cell? ⟨w.heap.size, 10, none⟩ = some (r) ∧ wr.cell? ⟨w.heap.size, 11, none⟩ = some (y) ∧ Kp w wr) (fun _ _ s14 _ => n - (intOf s14).toNat)
  case atStart => exact ⟨0, 0, by omega, rfl, rfl, by omega, Lib.hid (by rw [List.drop_zero]; exact HR.out.symm), s0⟩
  case round =>
    clear s0
    obtain ⟨q, M, hqn, rfl, rfl, hM, HE, sr⟩ := hrel
    by_cases hlt : q < n
    · have hlt' : (q : Int) < n := by omega
      obtain ⟨g, off, rfl, hc⟩ := HV.out (by omega)
      obtain ⟨z, hz⟩ : ∃ z, cl[q]? = some z := ⟨cl[q]'(by have := HN.out; omega), List.getElem?_eq_getElem _⟩
      have a0 := sr.2.2.2.2.2.2.2.2.2.2.2.2.cell (hc q z hz)
      have HX := Lib.hid (dropN hz)
      have CV2 := Lib.hid (CV.out z (List.mem_of_getElem? hz))
      clear hc hz
      cases hp : p z
      · rw [hp] at CV2
        have HE2 : Hid (cntC p (cl.drop (q + 1)) M = R) := Lib.hid (by rw [← HE.out, HX.out, cntC, hp]; simp)
        clear hp
        go_wp2_with fail
        refine (CV2.out _ (HB.out.keep sr.2.2.2.2.2.2.2.2.2.2.2.2)).mono ?_
        rintro e1 w1 ⟨rfl, k1⟩
        have s1 := keep12k k1 sr
        clear sr k1 a0
        go_wp2_with fail
        go_roundw
        case rel => exact ⟨q + 1, M, by omega, by go_num, rfl, by omega, HE2, s1⟩
        case measure => simp [intOf]; omega
      · rw [hp] at CV2
        have HE2 : Hid (cntC p (cl.drop (q + 1)) (M + 1) = R) := Lib.hid (by rw [← HE.out, HX.out, cntC, hp]; simp)
        clear hp
        go_wp2_with fail
        refine (CV2.out _ (HB.out.keep sr.2.2.2.2.2.2.2.2.2.2.2.2)).mono ?_
        rintro e1 w1 ⟨rfl, k1⟩
        have s1 := keep12k k1 sr
        clear sr k1 a0
        go_wp2_with fail
        go_roundw
        case rel => exact ⟨q + 1, M + 1, by omega, by go_num, rfl, by omega, HE2, s1⟩
        case measure => simp [intOf]; omega
    · obtain rfl : q = n := by omega
      have HE2 : Hid (M = R) := Lib.hid (by
        rw [← HE.out, List.drop_eq_nil_of_le (by have := HN.out; omega)]
        rfl)
      go_wp2_with fail
      go_ret
      exact ⟨ret_int HE2.out, sr.2.2.2.2.2.2.2.2.2.2.2.2⟩

set_option maxRecDepth 100000 in
set_option maxHeartbeats 4000000 in
theorem vFirst_any (At Ak : Option Addr) (nt nk ct ck : Nat) (l : List Ter) (m : List Knd) (a b c d e W H : Int) (x r y : Value) (lt lr ld : List Int) (i k : Int) (w : World) (hB : BrdAt w At Ak nt nk l m x r y lt lr ld) (hok : brdOk ⟨l, m, a, b, c, d, e⟩ W H lt lr ld = true) (hi : onI W H i = true) (hk : onI W H k = true) :
    Calls Tryz.prog 51 #[bv (.slice At nt ct) (.slice Ak nk ck) a b c d e W H x r y, .int .i64 i, .int .i64 k] w fun e' w' => e' = .returned (.int .i64 (fstI l lt W i k)) ∧ Kp w w' := by
  have s0 : (w.alloc (.cells #[.slice At nt ct, .slice Ak nk ck, .int .i64 a, .int .i64 b, .int .i64 c, .int .i64 d, .int .i64 e, .int .i64 W, .int .i64 H, x, r, y] 41)).cell? ⟨w.heap.size, 0, none⟩ = some (.slice At nt ct) ∧ (w.alloc (.cells #[.slice At nt ct, .slice Ak nk ck, .int .i64 a, .int .i64 b, .int .i64 c, .int .i64 d, .int .i64 e, .int .i64 W, .int .i64 H, x, r, y] 41)).cell? ⟨w.heap.size, 1, none⟩ = some (.slice Ak nk ck) ∧ (w.alloc (.cells #[.slice At nt ct, .slice Ak nk ck, .int .i64 a, .int .i64 b, .int .i64 c, .int .i64 d, .int .i64 e, .int .i64 W, .int .i64 H, x, r, y] 41)).cell? ⟨w.heap.size, 2, none⟩ = some (.int .i64 a) ∧ (w.alloc (.cells #[.slice At nt ct, .slice Ak nk ck, .int .i64 a, .int .i64 b, .int .i64 c, .int .i64 d, .int .i64 e, .int .i64 W, .int .i64 H, x, r, y] 41)).cell? ⟨w.heap.size, 3, none⟩ = some (.int .i64 b) ∧ (w.alloc (.cells #[.slice At nt ct, .slice Ak nk ck, .int .i64 a, .int .i64 b, .int .i64 c, .int .i64 d, .int .i64 e, .int .i64 W, .int .i64 H, x, r, y] 41)).cell? ⟨w.heap.size, 4, none⟩ = some (.int .i64 c) ∧ (w.alloc (.cells #[.slice At nt ct, .slice Ak nk ck, .int .i64 a, .int .i64 b, .int .i64 c, .int .i64 d, .int .i64 e, .int .i64 W, .int .i64 H, x, r, y] 41)).cell? ⟨w.heap.size, 5, none⟩ = some (.int .i64 d) ∧ (w.alloc (.cells #[.slice At nt ct, .slice Ak nk ck, .int .i64 a, .int .i64 b, .int .i64 c, .int .i64 d, .int .i64 e, .int .i64 W, .int .i64 H, x, r, y] 41)).cell? ⟨w.heap.size, 6, none⟩ = some (.int .i64 e) ∧ (w.alloc (.cells #[.slice At nt ct, .slice Ak nk ck, .int .i64 a, .int .i64 b, .int .i64 c, .int .i64 d, .int .i64 e, .int .i64 W, .int .i64 H, x, r, y] 41)).cell? ⟨w.heap.size, 7, none⟩ = some (.int .i64 W) ∧ (w.alloc (.cells #[.slice At nt ct, .slice Ak nk ck, .int .i64 a, .int .i64 b, .int .i64 c, .int .i64 d, .int .i64 e, .int .i64 W, .int .i64 H, x, r, y] 41)).cell? ⟨w.heap.size, 8, none⟩ = some (.int .i64 H) ∧ (w.alloc (.cells #[.slice At nt ct, .slice Ak nk ck, .int .i64 a, .int .i64 b, .int .i64 c, .int .i64 d, .int .i64 e, .int .i64 W, .int .i64 H, x, r, y] 41)).cell? ⟨w.heap.size, 9, none⟩ = some (x) ∧ (w.alloc (.cells #[.slice At nt ct, .slice Ak nk ck, .int .i64 a, .int .i64 b, .int .i64 c, .int .i64 d, .int .i64 e, .int .i64 W, .int .i64 H, x, r, y] 41)).cell? ⟨w.heap.size, 10, none⟩ = some (r) ∧ (w.alloc (.cells #[.slice At nt ct, .slice Ak nk ck, .int .i64 a, .int .i64 b, .int .i64 c, .int .i64 d, .int .i64 e, .int .i64 W, .int .i64 H, x, r, y] 41)).cell? ⟨w.heap.size, 11, none⟩ = some (y) ∧ Kp w (w.alloc (.cells #[.slice At nt ct, .slice Ak nk ck, .int .i64 a, .int .i64 b, .int .i64 c, .int .i64 d, .int .i64 e, .int .i64 W, .int .i64 H, x, r, y] 41)) := ⟨by simp [go_sem], by simp [go_sem], by simp [go_sem], by simp [go_sem], by simp [go_sem], by simp [go_sem], by simp [go_sem], by simp [go_sem], by simp [go_sem], by simp [go_sem], by simp [go_sem], by simp [go_sem], (Kp.refl w).alloc _⟩
  have HB := Lib.hid hB
  obtain ⟨b1, b2, b3, b4⟩ := mapOk_side (brdOk_map hok)
  have HIN := Lib.hid (sgtL_nat (lt := lt) b1 b2 (mapOk_len (brdOk_map hok)) hi hk)
  have hbd := sgtL_bd b1 b2 b3 b4 hi hk
  have CC : Hid (∀ w, Calls Tryz.prog 40 #[bv (.slice At nt ct) (.slice Ak nk ck) a b c d e W H x r y, .int .i64 i, .int .i64 k] w fun e' w' => ∃ v vs, e' = .returned v ∧ OwnII w' w.heap.size v (sgtL W i k) vs ∧ Kp w w') := Lib.hid fun w => vCells_any At Ak nt nk ct ck l m a b c d e W H x r y lt lr ld i k w hok hi hk
  have CN : Hid (∀ (v : Value) (cl : List Int) (w : World), BrdAt w At Ak nt nk l m x r y lt lr ld → (∀ x ∈ cl, ∃ z : Nat, z < lt.length ∧ x = z) → RdI w v cl → cl.length ≤ 2 → Calls Tryz.prog 86 #[bv (.slice At nt ct) (.slice Ak nk ck) a b c d e W H x r y, .int .i64 i, .int .i64 k, v] w fun e' w' => e' = .returned (.int .i64 (cntC (blkI l lt i k) cl 0)) ∧ Kp w w') := Lib.hid fun v cl w h1 h2 h3 h4 => vCount_any At Ak nt nk ct ck l m a b c d e W H x r y lt lr ld i k v cl w h1 hok hi hk h2 h3 h4
  unfold fstI
  generalize blkI l lt i k = p at CN ⊢
  generalize sgtL W i k = C at CC HIN hbd ⊢
  obtain ⟨n, hn⟩ : ∃ n, n = C.length := ⟨_, rfl⟩
  have HN := Lib.hid hn
  rw [← hn] at hbd
  obtain ⟨R, hR⟩ : ∃ R, R = fstC p C := ⟨_, rfl⟩
  have HR := Lib.hid hR
  rw [← hR]
  clear hB hok hi hk hn hR b1 b2 b3 b4
  go_enter Tryz.func51, Tryz.ntmps51
  go_wp2_with fail
  refine (CC.out _).mono ?_
  rintro e2 w2 ⟨v, vs, rfl, o2, k2⟩
  have s2 := keep12k k2 s0
  have R2 := Lib.hid o2.rd
  obtain ⟨A2, c2, vs2, e9, hvl, h0, h1⟩ := R2.out
  subst e9
  rw [← HN.out] at h0 hvl ⊢
  have HV := Lib.hid (And.intro hvl (And.intro h0 h1))
  have s3 : w2.cell? ⟨w.heap.size, 0, none⟩ = some (.slice At nt ct) ∧ w2.cell? ⟨w.heap.size, 1, none⟩ = some (.slice Ak nk ck) ∧ w2.cell? ⟨w.heap.size, 2, none⟩ = some (.int .i64 a) ∧ w2.cell? ⟨w.heap.size, 3, none⟩ = some (.int .i64 b) ∧ w2.cell? ⟨w.heap.size, 4, none⟩ = some (.int .i64 c) ∧ w2.cell? ⟨w.heap.size, 5, none⟩ = some (.int .i64 d) ∧ w2.cell? ⟨w.heap.size, 6, none⟩ = some (.int .i64 e) ∧ w2.cell? ⟨w.heap.size, 7, none⟩ = some (.int .i64 W) ∧ w2.cell? ⟨w.heap.size, 8, none⟩ = some (.int .i64 H) ∧ w2.cell? ⟨w.heap.size, 9, none⟩ = some (x) ∧ w2.cell? ⟨w.heap.size, 10, none⟩ = some (r) ∧ w2.cell? ⟨w.heap.size, 11, none⟩ = some (y) ∧ Kp w2 w2 := ⟨s2.1, s2.2.1, s2.2.2.1, s2.2.2.2.1, s2.2.2.2.2.1, s2.2.2.2.2.2.1, s2.2.2.2.2.2.2.1, s2.2.2.2.2.2.2.2.1, s2.2.2.2.2.2.2.2.2.1, s2.2.2.2.2.2.2.2.2.2.1, s2.2.2.2.2.2.2.2.2.2.2.1, s2.2.2.2.2.2.2.2.2.2.2.2.1, Kp.refl w2⟩
  have K02 := s2.2.2.2.2.2.2.2.2.2.2.2.2
  clear s0 k2 o2 hvl h0 h1 s2
  go_wp2_with fail
  go_loopw [7, 8, 14] (fun _ _ s14 wr => ∃ q : Nat, q ≤ n ∧ s14 = .int .i64 q ∧ Hid (fstN (fun c => codC p c == 2) (C.drop q) (q : Int) = R) ∧ wr.cell? ⟨w.heap.size, 0, none⟩ = some (.slice At nt ct) ∧ wr.cell? ⟨w.heap.size, 1, none⟩ = some (.slice Ak nk ck) ∧ wr.cell? ⟨w.heap.size, 2, none⟩ = some (.int .i64 a) ∧ wr.cell? ⟨w.heap.size, 3, none⟩ = some (.int .i64 b) ∧ wr.cell? ⟨w.heap.size, 4, none⟩ = some (.int .i64 c) ∧ wr.cell? ⟨w.heap.size, 5, none⟩ = some (.int .i64 d) ∧ wr.cell? ⟨w.heap.size, 6, none⟩ = some (.int .i64 e) ∧ wr.cell? ⟨w.heap.size, 7, none⟩ = some (.int .i64 W) ∧ wr.cell? ⟨w.heap.size, 8, none⟩ = some (.int .i64 H) ∧ wr.cell? ⟨w.heap.size, 9, none⟩ = some (x) ∧ wr.cell? ⟨w.heap.size, 10, none⟩ = some (r) ∧ wr.cell? ⟨w.heap.size, 11, none⟩ = some (y) ∧ Kp w2 wr) (fun _ _ s14 _ => n - (intOf s14).toNat)
  case atStart => exact ⟨0, by omega, rfl, Lib.hid (by rw [List.drop_zero]; exact HR.out.symm), s3⟩
  case round =>
    clear s3
    obtain ⟨q, hqn, rfl, HE, sr⟩ := hrel
    by_cases hlt : q < n
    · have hlt' : (q : Int) < n := by omega
      obtain ⟨hvl, h0, h1⟩ := HV.out
      obtain ⟨g, off, rfl, hc⟩ := h0 (by omega)
      obtain ⟨xc, hxc⟩ : ∃ x, vs2[q]? = some x := ⟨vs2[q]'(by omega), List.getElem?_eq_getElem _⟩
      obtain ⟨cl, hc0⟩ : ∃ c, C[q]? = some c := ⟨C[q]'(by have := HN.out; omega), List.getElem?_eq_getElem _⟩
      have cx := sr.2.2.2.2.2.2.2.2.2.2.2.2.cell (hc q xc hxc)
      have HX := Lib.hid ((h1 q xc cl hxc hc0).keep sr.2.2.2.2.2.2.2.2.2.2.2.2)
      have HCI := Lib.hid (HIN.out cl (List.mem_of_getElem? hc0))
      have HD := Lib.hid (dropN hc0)
      obtain ⟨Ax, cx', ex, hx9⟩ := HX.out
      subst ex
      have hk2 := HCI.out.1
      have CX := Lib.hid (CN.out _ cl wr (HB.out.keep (K02.trans sr.2.2.2.2.2.2.2.2.2.2.2.2)) HCI.out.2 HX.out hk2.2)
      have hcc := (cnt_code (f := p) hk2.1).1
      have hcg := cntC_ge p cl 0
      obtain ⟨nC, hnC⟩ : ∃ n, n = cl.length := ⟨_, rfl⟩
      have HNC := Lib.hid hnC
      rw [← hnC] at hcc hcg hk2 cx
      obtain ⟨X, hX⟩ : ∃ X, X = cntC p cl 0 := ⟨_, rfl⟩
      rw [← hX] at CX hcc hcg
      rw [← hnC] at CX
      clear hvl h0 h1 hc hxc hc0 HX hx9 hX hnC
      by_cases hxn : X = nC
      · have HE2 : Hid ((q : Int) = R) := Lib.hid (by rw [← HE.out, HD.out, fstN]; simp [hcc.1 hxn])
        have he : (X == (nC : Int)) = true := by simpa using hxn
        clear hcc hxn
        go_wp2_with fail
        refine CX.out.mono ?_
        rintro e3 w3 ⟨rfl, k3⟩
        go_wp2_with fail
        go_ret
        exact ⟨ret_int HE2.out, (K02.trans sr.2.2.2.2.2.2.2.2.2.2.2.2).trans k3⟩
      · have HE2 : Hid (fstN (fun c => codC p c == 2) (C.drop (q + 1)) ((q + 1 : Nat) : Int) = R) := Lib.hid (by
          rw [← HE.out, HD.out, fstN]
          have : ¬ codC p cl = 2 := fun h => hxn (hcc.2 h)
          simp [this])
        have he : (X == (nC : Int)) = false := by simpa using hxn
        clear hcc hxn
        go_wp2_with fail
        refine CX.out.mono ?_
        rintro e3 w3 ⟨rfl, k3⟩
        have s4 := keep12k k3 sr
        clear sr k3 cx
        go_wp2_with fail
        go_roundw
        case rel => exact ⟨q + 1, by omega, by go_num, HE2, s4⟩
        case measure => simp [intOf]; omega
    · obtain rfl : q = n := by omega
      have HE2 : Hid ((-1 : Int) = R) := Lib.hid (by
        rw [← HE.out, List.drop_eq_nil_of_le (by have := HN.out; omega)]
        rfl)
      go_wp2_with fail
      go_ret
      exact ⟨ret_int HE2.out, K02.trans sr.2.2.2.2.2.2.2.2.2.2.2.2⟩

set_option maxRecDepth 100000 in
set_option maxHeartbeats 4000000 in
theorem vCode_any (At Ak : Option Addr) (nt nk ct ck : Nat) (l : List Ter) (m : List Knd) (a b c d e W H : Int) (x r y : Value) (lt lr ld : List Int) (i k : Int) (w : World) (hB : BrdAt w At Ak nt nk l m x r y lt lr ld) (hok : brdOk ⟨l, m, a, b, c, d, e⟩ W H lt lr ld = true) (hi : onI W H i = true) (hk : onI W H k = true) :
    Calls Tryz.prog 49 #[bv (.slice At nt ct) (.slice Ak nk ck) a b c d e W H x r y, .int .i64 i, .int .i64 k] w fun e' w' => e' = .returned (.int .i64 (codI l lt W i k)) ∧ Kp w w' := by
  have s0 : (w.alloc (.cells #[.slice At nt ct, .slice Ak nk ck, .int .i64 a, .int .i64 b, .int .i64 c, .int .i64 d, .int .i64 e, .int .i64 W, .int .i64 H, x, r, y] 41)).cell? ⟨w.heap.size, 0, none⟩ = some (.slice At nt ct) ∧ (w.alloc (.cells #[.slice At nt ct, .slice Ak nk ck, .int .i64 a, .int .i64 b, .int .i64 c, .int .i64 d, .int .i64 e, .int .i64 W, .int .i64 H, x, r, y] 41)).cell? ⟨w.heap.size, 1, none⟩ = some (.slice Ak nk ck) ∧ (w.alloc (.cells #[.slice At nt ct, .slice Ak nk ck, .int .i64 a, .int .i64 b, .int .i64 c, .int .i64 d, .int .i64 e, .int .i64 W, .int .i64 H, x, r, y] 41)).cell? ⟨w.heap.size, 2, none⟩ = some (.int .i64 a) ∧ (w.alloc (.cells #[.slice At nt ct, .slice Ak nk ck, .int .i64 a, .int .i64 b, .int .i64 c, .int .i64 d, .int .i64 e, .int .i64 W, .int .i64 H, x, r, y] 41)).cell? ⟨w.heap.size, 3, none⟩ = some (.int .i64 b) ∧ (w.alloc (.cells #[.slice At nt ct, .slice Ak nk ck, .int .i64 a, .int .i64 b, .int .i64 c, .int .i64 d, .int .i64 e, .int .i64 W, .int .i64 H, x, r, y] 41)).cell? ⟨w.heap.size, 4, none⟩ = some (.int .i64 c) ∧ (w.alloc (.cells #[.slice At nt ct, .slice Ak nk ck, .int .i64 a, .int .i64 b, .int .i64 c, .int .i64 d, .int .i64 e, .int .i64 W, .int .i64 H, x, r, y] 41)).cell? ⟨w.heap.size, 5, none⟩ = some (.int .i64 d) ∧ (w.alloc (.cells #[.slice At nt ct, .slice Ak nk ck, .int .i64 a, .int .i64 b, .int .i64 c, .int .i64 d, .int .i64 e, .int .i64 W, .int .i64 H, x, r, y] 41)).cell? ⟨w.heap.size, 6, none⟩ = some (.int .i64 e) ∧ (w.alloc (.cells #[.slice At nt ct, .slice Ak nk ck, .int .i64 a, .int .i64 b, .int .i64 c, .int .i64 d, .int .i64 e, .int .i64 W, .int .i64 H, x, r, y] 41)).cell? ⟨w.heap.size, 7, none⟩ = some (.int .i64 W) ∧ (w.alloc (.cells #[.slice At nt ct, .slice Ak nk ck, .int .i64 a, .int .i64 b, .int .i64 c, .int .i64 d, .int .i64 e, .int .i64 W, .int .i64 H, x, r, y] 41)).cell? ⟨w.heap.size, 8, none⟩ = some (.int .i64 H) ∧ (w.alloc (.cells #[.slice At nt ct, .slice Ak nk ck, .int .i64 a, .int .i64 b, .int .i64 c, .int .i64 d, .int .i64 e, .int .i64 W, .int .i64 H, x, r, y] 41)).cell? ⟨w.heap.size, 9, none⟩ = some (x) ∧ (w.alloc (.cells #[.slice At nt ct, .slice Ak nk ck, .int .i64 a, .int .i64 b, .int .i64 c, .int .i64 d, .int .i64 e, .int .i64 W, .int .i64 H, x, r, y] 41)).cell? ⟨w.heap.size, 10, none⟩ = some (r) ∧ (w.alloc (.cells #[.slice At nt ct, .slice Ak nk ck, .int .i64 a, .int .i64 b, .int .i64 c, .int .i64 d, .int .i64 e, .int .i64 W, .int .i64 H, x, r, y] 41)).cell? ⟨w.heap.size, 11, none⟩ = some (y) ∧ Kp w (w.alloc (.cells #[.slice At nt ct, .slice Ak nk ck, .int .i64 a, .int .i64 b, .int .i64 c, .int .i64 d, .int .i64 e, .int .i64 W, .int .i64 H, x, r, y] 41)) := ⟨by simp [go_sem], by simp [go_sem], by simp [go_sem], by simp [go_sem], by simp [go_sem], by simp [go_sem], by simp [go_sem], by simp [go_sem], by simp [go_sem], by simp [go_sem], by simp [go_sem], by simp [go_sem], (Kp.refl w).alloc _⟩
  have HB := Lib.hid hB
  obtain ⟨b1, b2, b3, b4⟩ := mapOk_side (brdOk_map hok)
  have HIN := Lib.hid (sgtL_nat (lt := lt) b1 b2 (mapOk_len (brdOk_map hok)) hi hk)
  have hbd := sgtL_bd b1 b2 b3 b4 hi hk
  have CC : Hid (∀ w, Calls Tryz.prog 40 #[bv (.slice At nt ct) (.slice Ak nk ck) a b c d e W H x r y, .int .i64 i, .int .i64 k] w fun e' w' => ∃ v vs, e' = .returned v ∧ OwnII w' w.heap.size v (sgtL W i k) vs ∧ Kp w w') := Lib.hid fun w => vCells_any At Ak nt nk ct ck l m a b c d e W H x r y lt lr ld i k w hok hi hk
  have CN : Hid (∀ (v : Value) (cl : List Int) (w : World), BrdAt w At Ak nt nk l m x r y lt lr ld → (∀ x ∈ cl, ∃ z : Nat, z < lt.length ∧ x = z) → RdI w v cl → cl.length ≤ 2 → Calls Tryz.prog 86 #[bv (.slice At nt ct) (.slice Ak nk ck) a b c d e W H x r y, .int .i64 i, .int .i64 k, v] w fun e' w' => e' = .returned (.int .i64 (cntC (blkI l lt i k) cl 0)) ∧ Kp w w') := Lib.hid fun v cl w h1 h2 h3 h4 => vCount_any At Ak nt nk ct ck l m a b c d e W H x r y lt lr ld i k v cl w h1 hok hi hk h2 h3 h4
  have CF := Lib.hid (fun (w : World) hB => vFirst_any At Ak nt nk ct ck l m a b c d e W H x r y lt lr ld i k w hB hok hi hk)
  have HCE := Lib.hid (codS_eq (blkI l lt i k) (sgtL W i k))
  have HRR : Hid (codI l lt W i k = codS (blkI l lt i k) (sgtL W i k)) := Lib.hid rfl
  rw [HRR.out]
  unfold fstI at CF
  generalize blkI l lt i k = p at CN CF HCE ⊢
  generalize sgtL W i k = C at CC CF HIN hbd HCE ⊢
  obtain ⟨n, hn⟩ : ∃ n, n = C.length := ⟨_, rfl⟩
  have HN := Lib.hid hn
  rw [← hn] at hbd
  obtain ⟨R, hR⟩ : ∃ R, R = codS p C := ⟨_, rfl⟩
  have HR := Lib.hid hR
  rw [← hR]
  obtain ⟨X, hX⟩ : ∃ X, X = fstC p C := ⟨_, rfl⟩
  rw [← hX] at CF HCE
  clear hB hok hi hk hn hR b1 b2 b3 b4 hX HRR
  by_cases hx0 : 0 ≤ X
  · have HE2 : Hid ((2 : Int) = R) := Lib.hid (by rw [HR.out, HCE.out, if_pos hx0])
    have hxg : (0 : Int) ≤ X := hx0
    go_enter Tryz.func49, Tryz.ntmps49
    go_wp2_with fail
    refine (CF.out _ (HB.out.keep s0.2.2.2.2.2.2.2.2.2.2.2.2)).mono ?_
    rintro e1 w1 ⟨rfl, k1⟩
    go_wp2_with fail
    go_ret
    exact ⟨ret_int HE2.out, s0.2.2.2.2.2.2.2.2.2.2.2.2.trans k1⟩
  · have HC2 : Hid (codS p C = if C.any (fun c => codC p c != 0) = true then 1 else 0) := Lib.hid (by rw [HCE.out, if_neg hx0])
    clear HCE
    go_enter Tryz.func49, Tryz.ntmps49
    go_wp2_with fail
    refine (CF.out _ (HB.out.keep s0.2.2.2.2.2.2.2.2.2.2.2.2)).mono ?_
    rintro e1 w1 ⟨rfl, k1⟩
    have s1 := keep12k k1 s0
    clear s0 k1
    go_wp2_with fail
    refine (CC.out _).mono ?_
    rintro e2 w2 ⟨v, vs, rfl, o2, k2⟩
    have s2 := keep12k k2 s1
    have R2 := Lib.hid o2.rd
    obtain ⟨A2, c2, vs2, e9, hvl, h0, h1⟩ := R2.out
    subst e9
    rw [← HN.out] at h0 hvl ⊢
    have HV := Lib.hid (And.intro hvl (And.intro h0 h1))
    have s3 : w2.cell? ⟨w.heap.size, 0, none⟩ = some (.slice At nt ct) ∧ w2.cell? ⟨w.heap.size, 1, none⟩ = some (.slice Ak nk ck) ∧ w2.cell? ⟨w.heap.size, 2, none⟩ = some (.int .i64 a) ∧ w2.cell? ⟨w.heap.size, 3, none⟩ = some (.int .i64 b) ∧ w2.cell? ⟨w.heap.size, 4, none⟩ = some (.int .i64 c) ∧ w2.cell? ⟨w.heap.size, 5, none⟩ = some (.int .i64 d) ∧ w2.cell? ⟨w.heap.size, 6, none⟩ = some (.int .i64 e) ∧ w2.cell? ⟨w.heap.size, 7, none⟩ = some (.int .i64 W) ∧ w2.cell? ⟨w.heap.size, 8, none⟩ = some (.int .i64 H) ∧ w2.cell? ⟨w.heap.size, 9, none⟩ = some (x) ∧ w2.cell? ⟨w.heap.size, 10, none⟩ = some (r) ∧ w2.cell? ⟨w.heap.size, 11, none⟩ = some (y) ∧ Kp w2 w2 := ⟨s2.1, s2.2.1, s2.2.2.1, s2.2.2.2.1, s2.2.2.2.2.1, s2.2.2.2.2.2.1, s2.2.2.2.2.2.2.1, s2.2.2.2.2.2.2.2.1, s2.2.2.2.2.2.2.2.2.1, s2.2.2.2.2.2.2.2.2.2.1, s2.2.2.2.2.2.2.2.2.2.2.1, s2.2.2.2.2.2.2.2.2.2.2.2.1, Kp.refl w2⟩
    have K02 := s2.2.2.2.2.2.2.2.2.2.2.2.2
    clear s1 k2 o2 hvl h0 h1 s2
    go_wp2_with fail
    go_loopw [8, 19] (fun _ s19 wr => ∃ q : Nat, q ≤ n ∧ s19 = .int .i64 q ∧ Hid ((C.take q).any (fun c => codC p c != 0) = false) ∧ wr.cell? ⟨w.heap.size, 0, none⟩ = some (.slice At nt ct) ∧ wr.cell? ⟨w.heap.size, 1, none⟩ = some (.slice Ak nk ck) ∧ wr.cell? ⟨w.heap.size, 2, none⟩ = some (.int .i64 a) ∧ wr.cell? ⟨w.heap.size, 3, none⟩ = some (.int .i64 b) ∧ wr.cell? ⟨w.heap.size, 4, none⟩ = some (.int .i64 c) ∧ wr.cell? ⟨w.heap.size, 5, none⟩ = some (.int .i64 d) ∧ wr.cell? ⟨w.heap.size, 6, none⟩ = some (.int .i64 e) ∧ wr.cell? ⟨w.heap.size, 7, none⟩ = some (.int .i64 W) ∧ wr.cell? ⟨w.heap.size, 8, none⟩ = some (.int .i64 H) ∧ wr.cell? ⟨w.heap.size, 9, none⟩ = some (x) ∧ wr.cell? ⟨w.heap.size, 10, none⟩ = some (r) ∧ wr.cell? ⟨w.heap.size, 11, none⟩ = some (y) ∧ Kp w2 wr) (fun _ s19 _ => n - (intOf s19).toNat)
    case atStart => exact ⟨0, by omega, rfl, Lib.hid (by simp), s3⟩
    case round =>
      clear s3
      obtain ⟨q, hqn, rfl, HE, sr⟩ := hrel
      by_cases hlt : q < n
      · have hlt' : (q : Int) < n := by omega
        obtain ⟨hvl, h0, h1⟩ := HV.out
        obtain ⟨g, off, rfl, hc⟩ := h0 (by omega)
        obtain ⟨xc, hxc⟩ : ∃ x, vs2[q]? = some x := ⟨vs2[q]'(by omega), List.getElem?_eq_getElem _⟩
        obtain ⟨cl, hc0⟩ : ∃ c, C[q]? = some c := ⟨C[q]'(by have := HN.out; omega), List.getElem?_eq_getElem _⟩
        have cx := sr.2.2.2.2.2.2.2.2.2.2.2.2.cell (hc q xc hxc)
        have HX := Lib.hid ((h1 q xc cl hxc hc0).keep sr.2.2.2.2.2.2.2.2.2.2.2.2)
        have HCI := Lib.hid (HIN.out cl (List.mem_of_getElem? hc0))
        have HM := Lib.hid (List.mem_of_getElem? hc0)
        have HT : Hid (C.take (q + 1) = C.take q ++ [cl]) := Lib.hid (by rw [List.take_add_one, hc0]; rfl)
        obtain ⟨Ax, cx', ex, hx9⟩ := HX.out
        subst ex
        have hk2 := HCI.out.1
        have CX := Lib.hid (CN.out _ cl wr (HB.out.keep (K02.trans sr.2.2.2.2.2.2.2.2.2.2.2.2)) HCI.out.2 HX.out hk2.2)
        have hcc := (cnt_code (f := p) hk2.1).2
        have hcg := cntC_ge p cl 0
        obtain ⟨Y, hY⟩ : ∃ Y, Y = cntC p cl 0 := ⟨_, rfl⟩
        rw [← hY] at CX hcc hcg
        clear hvl h0 h1 hc hxc hc0 HX hx9 hY
        by_cases hyn : 0 < Y
        · have HE2 : Hid ((1 : Int) = R) := Lib.hid (by
            rw [HR.out, HC2.out, if_pos]
            rw [List.any_eq_true]
            exact ⟨cl, HM.out, by simpa using hcc.1 hyn⟩)
          clear hcc
          go_wp2_with fail
          refine CX.out.mono ?_
          rintro e3 w3 ⟨rfl, k3⟩
          go_wp2_with fail
          go_ret
          exact ⟨ret_int HE2.out, (K02.trans sr.2.2.2.2.2.2.2.2.2.2.2.2).trans k3⟩
        · have HE2 : Hid ((C.take (q + 1)).any (fun c => codC p c != 0) = false) := Lib.hid (by
            rw [HT.out, List.any_append, HE.out]
            have : codC p cl = 0 := Decidable.byContradiction fun h => hyn (hcc.2 h)
            simp [this])
          clear hcc
          go_wp2_with fail
          refine CX.out.mono ?_
          rintro e3 w3 ⟨rfl, k3⟩
          have s4 := keep12k k3 sr
          clear sr k3 cx
          go_wp2_with fail
          go_roundw
          case rel => exact ⟨q + 1, by omega, by go_num, HE2, s4⟩
          case measure => simp [intOf]; omega
      · obtain rfl : q = n := by omega
        have HE2 : Hid ((0 : Int) = R) := Lib.hid (by
          have := HE.out
          rw [HN.out, List.take_length] at this
          rw [HR.out, HC2.out, this]
          simp)
        go_wp2_with fail
        go_ret
        exact ⟨ret_int HE2.out, K02.trans sr.2.2.2.2.2.2.2.2.2.2.2.2⟩

end Go.Proofs.YtfohhofpfmbheaaGreatDoor
