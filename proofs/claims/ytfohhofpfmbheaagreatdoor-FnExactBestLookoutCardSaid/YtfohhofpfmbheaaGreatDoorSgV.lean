/-
  What is in sight of a hex within a range, as the reference tells it. In memory of its own; nothing that was there is changed.
-/
import Derived.Test.YtfohhofpfmbheaaGreatDoorSgG
import Derived.Test.YtfohhofpfmbheaaGreatDoorSgS
namespace Go.Proofs.YtfohhofpfmbheaaGreatDoor
open Go.RowKit

theorem filter_take_yes {f : Int → Bool} {L : List Int} {q : Nat} {z : Int} (h : L[q]? = some z) (hf : f z = true) : (L.take (q + 1)).filter f = (L.take q).filter f ++ [z] := by
  rw [List.take_add_one, h, List.filter_append]
  simp [hf]
theorem filter_take_no {f : Int → Bool} {L : List Int} {q : Nat} {z : Int} (h : L[q]? = some z) (hf : f z = false) : (L.take (q + 1)).filter f = (L.take q).filter f := by
  rw [List.take_add_one, h, List.filter_append]
  simp [hf]
theorem filter_take_len (f : Int → Bool) (L : List Int) (q : Nat) : ((L.take q).filter f).length ≤ L.length :=
  Nat.le_trans (List.length_filter_le _ _) (by rw [List.length_take]; omega)

set_option maxRecDepth 100000 in
set_option maxHeartbeats 4000000 in
theorem vSeen_any (At Ak : Option Addr) (nt nk ct ck : Nat) (l : List Ter) (m : List Knd) (a b c d e W H : Int) (x r y : Value) (lt lr ld : List Int) (i far mo : Int) (w : World) (hB : BrdAt w At Ak nt nk l m x r y lt lr ld) (hok : brdOk ⟨l, m, a, b, c, d, e⟩ W H lt lr ld = true) (hi : onI W H i = true) :
    Calls Tryz.prog 56 #[bv (.slice At nt ct) (.slice Ak nk ck) a b c d e W H x r y, .int .i64 i, .int .i64 far, .int .i64 mo] w fun e' w' => ∃ v, e' = .returned v ∧ OwnI w' w.heap.size v (seenI l lt W i far mo lt.length) ∧ Kp w w' := by
  obtain ⟨b1, b2, b3, b4⟩ := mapOk_side (brdOk_map hok)
  have hlen := mapOk_len (brdOk_map hok)
  have hA := area_bd b1 b2 b3 b4
  have hn : (W * H).toNat = lt.length := by omega
  have s0 : (w.alloc (.cells #[.slice At nt ct, .slice Ak nk ck, .int .i64 a, .int .i64 b, .int .i64 c, .int .i64 d, .int .i64 e, .int .i64 W, .int .i64 H, x, r, y] 41)).cell? ⟨w.heap.size, 0, none⟩ = some (.slice At nt ct) ∧ (w.alloc (.cells #[.slice At nt ct, .slice Ak nk ck, .int .i64 a, .int .i64 b, .int .i64 c, .int .i64 d, .int .i64 e, .int .i64 W, .int .i64 H, x, r, y] 41)).cell? ⟨w.heap.size, 1, none⟩ = some (.slice Ak nk ck) ∧ (w.alloc (.cells #[.slice At nt ct, .slice Ak nk ck, .int .i64 a, .int .i64 b, .int .i64 c, .int .i64 d, .int .i64 e, .int .i64 W, .int .i64 H, x, r, y] 41)).cell? ⟨w.heap.size, 2, none⟩ = some (.int .i64 a) ∧ (w.alloc (.cells #[.slice At nt ct, .slice Ak nk ck, .int .i64 a, .int .i64 b, .int .i64 c, .int .i64 d, .int .i64 e, .int .i64 W, .int .i64 H, x, r, y] 41)).cell? ⟨w.heap.size, 3, none⟩ = some (.int .i64 b) ∧ (w.alloc (.cells #[.slice At nt ct, .slice Ak nk ck, .int .i64 a, .int .i64 b, .int .i64 c, .int .i64 d, .int .i64 e, .int .i64 W, .int .i64 H, x, r, y] 41)).cell? ⟨w.heap.size, 4, none⟩ = some (.int .i64 c) ∧ (w.alloc (.cells #[.slice At nt ct, .slice Ak nk ck, .int .i64 a, .int .i64 b, .int .i64 c, .int .i64 d, .int .i64 e, .int .i64 W, .int .i64 H, x, r, y] 41)).cell? ⟨w.heap.size, 5, none⟩ = some (.int .i64 d) ∧ (w.alloc (.cells #[.slice At nt ct, .slice Ak nk ck, .int .i64 a, .int .i64 b, .int .i64 c, .int .i64 d, .int .i64 e, .int .i64 W, .int .i64 H, x, r, y] 41)).cell? ⟨w.heap.size, 6, none⟩ = some (.int .i64 e) ∧ (w.alloc (.cells #[.slice At nt ct, .slice Ak nk ck, .int .i64 a, .int .i64 b, .int .i64 c, .int .i64 d, .int .i64 e, .int .i64 W, .int .i64 H, x, r, y] 41)).cell? ⟨w.heap.size, 7, none⟩ = some (.int .i64 W) ∧ (w.alloc (.cells #[.slice At nt ct, .slice Ak nk ck, .int .i64 a, .int .i64 b, .int .i64 c, .int .i64 d, .int .i64 e, .int .i64 W, .int .i64 H, x, r, y] 41)).cell? ⟨w.heap.size, 8, none⟩ = some (.int .i64 H) ∧ (w.alloc (.cells #[.slice At nt ct, .slice Ak nk ck, .int .i64 a, .int .i64 b, .int .i64 c, .int .i64 d, .int .i64 e, .int .i64 W, .int .i64 H, x, r, y] 41)).cell? ⟨w.heap.size, 9, none⟩ = some (x) ∧ (w.alloc (.cells #[.slice At nt ct, .slice Ak nk ck, .int .i64 a, .int .i64 b, .int .i64 c, .int .i64 d, .int .i64 e, .int .i64 W, .int .i64 H, x, r, y] 41)).cell? ⟨w.heap.size, 10, none⟩ = some (r) ∧ (w.alloc (.cells #[.slice At nt ct, .slice Ak nk ck, .int .i64 a, .int .i64 b, .int .i64 c, .int .i64 d, .int .i64 e, .int .i64 W, .int .i64 H, x, r, y] 41)).cell? ⟨w.heap.size, 11, none⟩ = some (y) ∧ Kp w (w.alloc (.cells #[.slice At nt ct, .slice Ak nk ck, .int .i64 a, .int .i64 b, .int .i64 c, .int .i64 d, .int .i64 e, .int .i64 W, .int .i64 H, x, r, y] 41)) := ⟨by simp [go_sem], by simp [go_sem], by simp [go_sem], by simp [go_sem], by simp [go_sem], by simp [go_sem], by simp [go_sem], by simp [go_sem], by simp [go_sem], by simp [go_sem], by simp [go_sem], by simp [go_sem], (Kp.refl w).alloc _⟩
  have HB := Lib.hid hB
  have CN : Hid (∀ w, Calls Tryz.prog 91 #[mp W H x r y, .int .i64 i, .int .i64 far] w fun e' w' => ∃ v, e' = .returned v ∧ OwnI w' w.heap.size v (nearF W (i % W) (i / W) far lt.length) ∧ Kp w w') := Lib.hid fun w => by
    have := mNear_any W H x r y i far w b1 b2 b3 b4 (onI_true hi).1 (onI_true hi).2
    rw [hn] at this
    exact this
  have CV : Hid (∀ z ∈ nearF W (i % W) (i / W) far lt.length, ∀ w, BrdAt w At Ak nt nk l m x r y lt lr ld → Calls Tryz.prog 49 #[bv (.slice At nt ct) (.slice Ak nk ck) a b c d e W H x r y, .int .i64 i, .int .i64 z] w fun e' w' => e' = .returned (.int .i64 (codI l lt W i z)) ∧ Kp w w') := Lib.hid fun z hz w hB => by
    obtain ⟨j, hj, rfl⟩ := nearF_mem _ _ _ _ _ _ hz
    exact vCode_any At Ak nt nk ct ck l m a b c d e W H x r y lt lr ld i j w hB hok hi (onI_of hlen hj)
  have hl0 := nearF_len W (i % W) (i / W) far lt.length
  have hl : (nearF W (i % W) (i / W) far lt.length).length ≤ 100 := by omega
  unfold seenI
  generalize nearF W (i % W) (i / W) far lt.length = L at CN CV hl ⊢
  obtain ⟨n, hn'⟩ : ∃ n, n = L.length := ⟨_, rfl⟩
  have HN := Lib.hid hn'
  have hl2 : n ≤ 100 := by omega
  have HLL : Hid (L.length ≤ 100) := Lib.hid hl
  obtain ⟨j0, hj0, hz0, hs0, hb0⟩ := info_parts infoInt
  clear hB hok hi hlen hn hn' b1 b2 b3 b4 hA hl hl0
  go_enter Tryz.func56, Tryz.ntmps56
  go_wp2_with fail
  refine (CN.out _).mono ?_
  rintro e1 w1 ⟨v, rfl, o1, k1⟩
  have s1 := keep12k k1 s0
  obtain ⟨A1, c1, rfl, hv⟩ := o1.rd
  rw [← HN.out] at hv ⊢
  have HV := Lib.hid hv
  have s2 : w1.cell? ⟨w.heap.size, 0, none⟩ = some (.slice At nt ct) ∧ w1.cell? ⟨w.heap.size, 1, none⟩ = some (.slice Ak nk ck) ∧ w1.cell? ⟨w.heap.size, 2, none⟩ = some (.int .i64 a) ∧ w1.cell? ⟨w.heap.size, 3, none⟩ = some (.int .i64 b) ∧ w1.cell? ⟨w.heap.size, 4, none⟩ = some (.int .i64 c) ∧ w1.cell? ⟨w.heap.size, 5, none⟩ = some (.int .i64 d) ∧ w1.cell? ⟨w.heap.size, 6, none⟩ = some (.int .i64 e) ∧ w1.cell? ⟨w.heap.size, 7, none⟩ = some (.int .i64 W) ∧ w1.cell? ⟨w.heap.size, 8, none⟩ = some (.int .i64 H) ∧ w1.cell? ⟨w.heap.size, 9, none⟩ = some (x) ∧ w1.cell? ⟨w.heap.size, 10, none⟩ = some (r) ∧ w1.cell? ⟨w.heap.size, 11, none⟩ = some (y) ∧ Kp w1 w1 := ⟨s1.1, s1.2.1, s1.2.2.1, s1.2.2.2.1, s1.2.2.2.2.1, s1.2.2.2.2.2.1, s1.2.2.2.2.2.2.1, s1.2.2.2.2.2.2.2.1, s1.2.2.2.2.2.2.2.2.1, s1.2.2.2.2.2.2.2.2.2.1, s1.2.2.2.2.2.2.2.2.2.2.1, s1.2.2.2.2.2.2.2.2.2.2.2.1, Kp.refl w1⟩
  have K01 := s1.2.2.2.2.2.2.2.2.2.2.2.2
  have hz1 := cellB s1.1
  simp only at hz1
  clear s0 k1 o1 hv s1
  go_wp2_with fail
  go_loopw [9, 11, 18] (fun v9 _ s18 wr => ∃ q : Nat, q ≤ n ∧ s18 = .int .i64 q ∧ OwnI wr w1.heap.size v9 ((L.take q).filter fun z => decide (codI l lt W i z ≤ mo)) ∧ wr.cell? ⟨w.heap.size, 0, none⟩ = some (.slice At nt ct) ∧ wr.cell? ⟨w.heap.size, 1, none⟩ = some (.slice Ak nk ck) ∧ wr.cell? ⟨w.heap.size, 2, none⟩ = some (.int .i64 a) ∧ wr.cell? ⟨w.heap.size, 3, none⟩ = some (.int .i64 b) ∧ wr.cell? ⟨w.heap.size, 4, none⟩ = some (.int .i64 c) ∧ wr.cell? ⟨w.heap.size, 5, none⟩ = some (.int .i64 d) ∧ wr.cell? ⟨w.heap.size, 6, none⟩ = some (.int .i64 e) ∧ wr.cell? ⟨w.heap.size, 7, none⟩ = some (.int .i64 W) ∧ wr.cell? ⟨w.heap.size, 8, none⟩ = some (.int .i64 H) ∧ wr.cell? ⟨w.heap.size, 9, none⟩ = some (x) ∧ wr.cell? ⟨w.heap.size, 10, none⟩ = some (r) ∧ wr.cell? ⟨w.heap.size, 11, none⟩ = some (y) ∧ Kp w1 wr) (fun _ _ s18 _ => n - (intOf s18).toNat)
  case atStart => exact ⟨0, by omega, rfl, OwnI.nil _ _, s2⟩
  case round =>
    clear s2
    obtain ⟨q, hqn, rfl, hoR, sr⟩ := hrel
    by_cases hlt : q < n
    · have hlt' : (q : Int) < n := by omega
      obtain ⟨g, off, rfl, hc⟩ := HV.out (by omega)
      obtain ⟨z, hz⟩ : ∃ z, L[q]? = some z := ⟨L[q]'(by have := HN.out; omega), List.getElem?_eq_getElem _⟩
      have a0 := sr.2.2.2.2.2.2.2.2.2.2.2.2.cell (hc q z hz)
      have CZ := Lib.hid (CV.out z (List.mem_of_getElem? hz))
      have HZ := Lib.hid hz
      clear hc hz
      by_cases hle : codI l lt W i z ≤ mo
      · have HS := Lib.hid (filter_take_yes (f := fun z => decide (codI l lt W i z ≤ mo)) HZ.out (by simpa using hle))
        have hln : Hid (((L.take q).filter fun z => decide (codI l lt W i z ≤ mo)).length ≤ 100) := Lib.hid (Nat.le_trans (filter_take_len _ L q) HLL.out)
        generalize codI l lt W i z = X at CZ hle
        have HO := Lib.hid hoR
        clear hoR
        go_wp2_with fail
        refine (CZ.out _ (HB.out.keep (K01.trans sr.2.2.2.2.2.2.2.2.2.2.2.2))).mono ?_
        rintro e3 w4 ⟨rfl, k4⟩
        have s4 := keep12k k4 sr
        have O1 := Lib.hid (HO.out.keep k4)
        have n1 := Lib.hid (O1.out.not (g := w.heap.size) (by omega))
        have hz4 := s4.2.2.2.2.2.2.2.2.2.2.2.2.size
        clear k4 sr HO a0
        go_wp2_with (at_builtin; refine wpList_append_own_at _ rfl (.tmp 28) (.tmp 30) 26 rfl (w1.heap.size) 3 j0 (.int .i64 0) 1 8 Tryz.underlying26 hj0 hz0 hs0 hb0 rfl (by decide) _ ((L.take q).filter fun z => decide (codI l lt W i z ≤ mo)).length (cellsI ((L.take q).filter fun z => decide (codI l lt W i z ≤ mo))) rfl (World.ownsRow.alloc O1.out _) ⟨w4.heap.size, 0, none⟩ 1 1 [.int .i64 z] rfl rfl (one_cell _ _ _) (by simp [Value.oneCell']) (by have := hln.out; simp only [maxLen]; omega) (by have := hln.out; omega) (by simp; omega) ?_; intro v' w3 hown2 hgrow2 hnil2 hat2; clear hnil2 hat2; have s9 := keep12k ((Kp.refl w4).alloc (.cells #[.int .i64 z] 3)) s4; have s10 := grow12k hgrow2 (fun e => n1.out e.symm) (fun k e => (World.ownsRow.lt O1.out k e).1) s9; have O3 := Lib.hid (OwnI.snoc (x := z) hown2); clear s9; clear hown2 hgrow2)
        go_roundw
        case rel => exact ⟨q + 1, by omega, by go_num, by rw [HS.out]; exact O3.out, s10⟩
        case measure => simp [intOf]; omega
      · have HS := Lib.hid (filter_take_no (f := fun z => decide (codI l lt W i z ≤ mo)) HZ.out (by simpa using hle))
        generalize codI l lt W i z = X at CZ hle
        have HO := Lib.hid hoR
        clear hoR
        go_wp2_with fail
        refine (CZ.out _ (HB.out.keep (K01.trans sr.2.2.2.2.2.2.2.2.2.2.2.2))).mono ?_
        rintro e3 w4 ⟨rfl, k4⟩
        have s4 := keep12k k4 sr
        have O1 := Lib.hid (HO.out.keep k4)
        clear k4 sr HO a0
        go_wp2_with fail
        go_roundw
        case rel => exact ⟨q + 1, by omega, by go_num, by rw [HS.out]; exact O1.out, s4⟩
        case measure => simp [intOf]; omega
    · obtain rfl : q = n := by omega
      rw [show L.take q = L by rw [HN.out, List.take_length]] at hoR
      go_wp2_with fail
      go_ret
      exact ⟨_, rfl, hoR.base K01.size, K01.trans sr.2.2.2.2.2.2.2.2.2.2.2.2⟩

set_option maxRecDepth 100000 in
set_option maxHeartbeats 4000000 in
theorem vBy_any (At Ak : Option Addr) (nt nk ct ck : Nat) (l : List Ter) (m : List Knd) (a b c d e W H : Int) (x r y : Value) (lt lr ld : List Int) (k : Nat) (i : Int) (w : World) (hB : BrdAt w At Ak nt nk l m x r y lt lr ld) (hok : brdOk ⟨l, m, a, b, c, d, e⟩ W H lt lr ld = true) (hk : k < m.length) (hi : onI W H i = true) :
    Calls Tryz.prog 59 #[bv (.slice At nt ct) (.slice Ak nk ck) a b c d e W H x r y, .int .i64 (k : Int), .int .i64 i] w fun e' w' => ∃ v, e' = .returned v ∧ OwnI w' w.heap.size v (byI l m lt W i k lt.length) ∧ Kp w w' := by
  have hmk := hB.R.rk.1
  obtain ⟨gk, ok, rfl, hck⟩ := hB.R.rk.2 (by omega)
  obtain ⟨kd, hkd⟩ : ∃ kd, m[k]? = some kd := ⟨m[k]'hk, List.getElem?_eq_getElem _⟩
  obtain ⟨_, _, _, _, _, q2⟩ := hck k kd hkd

  obtain ⟨vw, hV⟩ : ∃ z, z = kd.view := ⟨_, rfl⟩
  rw [← hV] at q2
  have e0 : viewK m k = vw := by
    unfold viewK
    rw [hkd]
    exact hV.symm
  have HE : Hid (byI l m lt W i k lt.length = seenI l lt W i vw 1 lt.length) := Lib.hid (by unfold byI; rw [e0])
  have KA : Kp w (w.alloc (.cells #[.slice At nt ct, .slice (some ⟨gk, ok, none⟩) nk ck, .int .i64 a, .int .i64 b, .int .i64 c, .int .i64 d, .int .i64 e, .int .i64 W, .int .i64 H, x, r, y] 41)) := (Kp.refl w).alloc _
  have s0 : (w.alloc (.cells #[.slice At nt ct, .slice (some ⟨gk, ok, none⟩) nk ck, .int .i64 a, .int .i64 b, .int .i64 c, .int .i64 d, .int .i64 e, .int .i64 W, .int .i64 H, x, r, y] 41)).cell? ⟨w.heap.size, 0, none⟩ = some (.slice At nt ct) ∧ (w.alloc (.cells #[.slice At nt ct, .slice (some ⟨gk, ok, none⟩) nk ck, .int .i64 a, .int .i64 b, .int .i64 c, .int .i64 d, .int .i64 e, .int .i64 W, .int .i64 H, x, r, y] 41)).cell? ⟨w.heap.size, 1, none⟩ = some (.slice (some ⟨gk, ok, none⟩) nk ck) ∧ (w.alloc (.cells #[.slice At nt ct, .slice (some ⟨gk, ok, none⟩) nk ck, .int .i64 a, .int .i64 b, .int .i64 c, .int .i64 d, .int .i64 e, .int .i64 W, .int .i64 H, x, r, y] 41)).cell? ⟨w.heap.size, 2, none⟩ = some (.int .i64 a) ∧ (w.alloc (.cells #[.slice At nt ct, .slice (some ⟨gk, ok, none⟩) nk ck, .int .i64 a, .int .i64 b, .int .i64 c, .int .i64 d, .int .i64 e, .int .i64 W, .int .i64 H, x, r, y] 41)).cell? ⟨w.heap.size, 3, none⟩ = some (.int .i64 b) ∧ (w.alloc (.cells #[.slice At nt ct, .slice (some ⟨gk, ok, none⟩) nk ck, .int .i64 a, .int .i64 b, .int .i64 c, .int .i64 d, .int .i64 e, .int .i64 W, .int .i64 H, x, r, y] 41)).cell? ⟨w.heap.size, 4, none⟩ = some (.int .i64 c) ∧ (w.alloc (.cells #[.slice At nt ct, .slice (some ⟨gk, ok, none⟩) nk ck, .int .i64 a, .int .i64 b, .int .i64 c, .int .i64 d, .int .i64 e, .int .i64 W, .int .i64 H, x, r, y] 41)).cell? ⟨w.heap.size, 5, none⟩ = some (.int .i64 d) ∧ (w.alloc (.cells #[.slice At nt ct, .slice (some ⟨gk, ok, none⟩) nk ck, .int .i64 a, .int .i64 b, .int .i64 c, .int .i64 d, .int .i64 e, .int .i64 W, .int .i64 H, x, r, y] 41)).cell? ⟨w.heap.size, 6, none⟩ = some (.int .i64 e) ∧ (w.alloc (.cells #[.slice At nt ct, .slice (some ⟨gk, ok, none⟩) nk ck, .int .i64 a, .int .i64 b, .int .i64 c, .int .i64 d, .int .i64 e, .int .i64 W, .int .i64 H, x, r, y] 41)).cell? ⟨w.heap.size, 7, none⟩ = some (.int .i64 W) ∧ (w.alloc (.cells #[.slice At nt ct, .slice (some ⟨gk, ok, none⟩) nk ck, .int .i64 a, .int .i64 b, .int .i64 c, .int .i64 d, .int .i64 e, .int .i64 W, .int .i64 H, x, r, y] 41)).cell? ⟨w.heap.size, 8, none⟩ = some (.int .i64 H) ∧ (w.alloc (.cells #[.slice At nt ct, .slice (some ⟨gk, ok, none⟩) nk ck, .int .i64 a, .int .i64 b, .int .i64 c, .int .i64 d, .int .i64 e, .int .i64 W, .int .i64 H, x, r, y] 41)).cell? ⟨w.heap.size, 9, none⟩ = some (x) ∧ (w.alloc (.cells #[.slice At nt ct, .slice (some ⟨gk, ok, none⟩) nk ck, .int .i64 a, .int .i64 b, .int .i64 c, .int .i64 d, .int .i64 e, .int .i64 W, .int .i64 H, x, r, y] 41)).cell? ⟨w.heap.size, 10, none⟩ = some (r) ∧ (w.alloc (.cells #[.slice At nt ct, .slice (some ⟨gk, ok, none⟩) nk ck, .int .i64 a, .int .i64 b, .int .i64 c, .int .i64 d, .int .i64 e, .int .i64 W, .int .i64 H, x, r, y] 41)).cell? ⟨w.heap.size, 11, none⟩ = some (y) ∧ (w.alloc (.cells #[.slice At nt ct, .slice (some ⟨gk, ok, none⟩) nk ck, .int .i64 a, .int .i64 b, .int .i64 c, .int .i64 d, .int .i64 e, .int .i64 W, .int .i64 H, x, r, y] 41)).cell? ⟨gk, ok + k * 6 + 5, none⟩ = some (.int .i64 vw) ∧ Kp w (w.alloc (.cells #[.slice At nt ct, .slice (some ⟨gk, ok, none⟩) nk ck, .int .i64 a, .int .i64 b, .int .i64 c, .int .i64 d, .int .i64 e, .int .i64 W, .int .i64 H, x, r, y] 41)) := ⟨by simp [go_sem], by simp [go_sem], by simp [go_sem], by simp [go_sem], by simp [go_sem], by simp [go_sem], by simp [go_sem], by simp [go_sem], by simp [go_sem], by simp [go_sem], by simp [go_sem], by simp [go_sem], KA.cell q2, KA⟩
  have HB := Lib.hid hB

  have C1 := Lib.hid (fun (w : World) hB => vSeen_any At (some ⟨gk, ok, none⟩) nt nk ct ck l m a b c d e W H x r y lt lr ld i vw 1 w hB hok hi)
  have hnk : k < nk := by omega
  rw [HE.out]
  have hkk : k < 4 := by have := (rulOk_nt (brdOk_rul hok)).2.2; omega
  clear hB hok hk hi hck hkd hV e0 hmk q2 KA HE
  go_enter Tryz.func59, Tryz.ntmps59
  go_upto_region 1 with (fail)
  have s1 : (w.alloc (.cells #[.slice At nt ct, .slice (some ⟨gk, ok, none⟩) nk ck, .int .i64 a, .int .i64 b, .int .i64 c, .int .i64 d, .int .i64 e, .int .i64 W, .int .i64 H, x, r, y] 41)).drew.cell? ⟨w.heap.size, 0, none⟩ = some (.slice At nt ct) ∧ (w.alloc (.cells #[.slice At nt ct, .slice (some ⟨gk, ok, none⟩) nk ck, .int .i64 a, .int .i64 b, .int .i64 c, .int .i64 d, .int .i64 e, .int .i64 W, .int .i64 H, x, r, y] 41)).drew.cell? ⟨w.heap.size, 1, none⟩ = some (.slice (some ⟨gk, ok, none⟩) nk ck) ∧ (w.alloc (.cells #[.slice At nt ct, .slice (some ⟨gk, ok, none⟩) nk ck, .int .i64 a, .int .i64 b, .int .i64 c, .int .i64 d, .int .i64 e, .int .i64 W, .int .i64 H, x, r, y] 41)).drew.cell? ⟨w.heap.size, 2, none⟩ = some (.int .i64 a) ∧ (w.alloc (.cells #[.slice At nt ct, .slice (some ⟨gk, ok, none⟩) nk ck, .int .i64 a, .int .i64 b, .int .i64 c, .int .i64 d, .int .i64 e, .int .i64 W, .int .i64 H, x, r, y] 41)).drew.cell? ⟨w.heap.size, 3, none⟩ = some (.int .i64 b) ∧ (w.alloc (.cells #[.slice At nt ct, .slice (some ⟨gk, ok, none⟩) nk ck, .int .i64 a, .int .i64 b, .int .i64 c, .int .i64 d, .int .i64 e, .int .i64 W, .int .i64 H, x, r, y] 41)).drew.cell? ⟨w.heap.size, 4, none⟩ = some (.int .i64 c) ∧ (w.alloc (.cells #[.slice At nt ct, .slice (some ⟨gk, ok, none⟩) nk ck, .int .i64 a, .int .i64 b, .int .i64 c, .int .i64 d, .int .i64 e, .int .i64 W, .int .i64 H, x, r, y] 41)).drew.cell? ⟨w.heap.size, 5, none⟩ = some (.int .i64 d) ∧ (w.alloc (.cells #[.slice At nt ct, .slice (some ⟨gk, ok, none⟩) nk ck, .int .i64 a, .int .i64 b, .int .i64 c, .int .i64 d, .int .i64 e, .int .i64 W, .int .i64 H, x, r, y] 41)).drew.cell? ⟨w.heap.size, 6, none⟩ = some (.int .i64 e) ∧ (w.alloc (.cells #[.slice At nt ct, .slice (some ⟨gk, ok, none⟩) nk ck, .int .i64 a, .int .i64 b, .int .i64 c, .int .i64 d, .int .i64 e, .int .i64 W, .int .i64 H, x, r, y] 41)).drew.cell? ⟨w.heap.size, 7, none⟩ = some (.int .i64 W) ∧ (w.alloc (.cells #[.slice At nt ct, .slice (some ⟨gk, ok, none⟩) nk ck, .int .i64 a, .int .i64 b, .int .i64 c, .int .i64 d, .int .i64 e, .int .i64 W, .int .i64 H, x, r, y] 41)).drew.cell? ⟨w.heap.size, 8, none⟩ = some (.int .i64 H) ∧ (w.alloc (.cells #[.slice At nt ct, .slice (some ⟨gk, ok, none⟩) nk ck, .int .i64 a, .int .i64 b, .int .i64 c, .int .i64 d, .int .i64 e, .int .i64 W, .int .i64 H, x, r, y] 41)).drew.cell? ⟨w.heap.size, 9, none⟩ = some (x) ∧ (w.alloc (.cells #[.slice At nt ct, .slice (some ⟨gk, ok, none⟩) nk ck, .int .i64 a, .int .i64 b, .int .i64 c, .int .i64 d, .int .i64 e, .int .i64 W, .int .i64 H, x, r, y] 41)).drew.cell? ⟨w.heap.size, 10, none⟩ = some (r) ∧ (w.alloc (.cells #[.slice At nt ct, .slice (some ⟨gk, ok, none⟩) nk ck, .int .i64 a, .int .i64 b, .int .i64 c, .int .i64 d, .int .i64 e, .int .i64 W, .int .i64 H, x, r, y] 41)).drew.cell? ⟨w.heap.size, 11, none⟩ = some (y) ∧ (w.alloc (.cells #[.slice At nt ct, .slice (some ⟨gk, ok, none⟩) nk ck, .int .i64 a, .int .i64 b, .int .i64 c, .int .i64 d, .int .i64 e, .int .i64 W, .int .i64 H, x, r, y] 41)).drew.cell? ⟨gk, ok + k * 6 + 5, none⟩ = some (.int .i64 vw) ∧ Kp w (w.alloc (.cells #[.slice At nt ct, .slice (some ⟨gk, ok, none⟩) nk ck, .int .i64 a, .int .i64 b, .int .i64 c, .int .i64 d, .int .i64 e, .int .i64 W, .int .i64 H, x, r, y] 41)).drew := ⟨s0.1, s0.2.1, s0.2.2.1, s0.2.2.2.1, s0.2.2.2.2.1, s0.2.2.2.2.2.1, s0.2.2.2.2.2.2.1, s0.2.2.2.2.2.2.2.1, s0.2.2.2.2.2.2.2.2.1, s0.2.2.2.2.2.2.2.2.2.1, s0.2.2.2.2.2.2.2.2.2.2.1, s0.2.2.2.2.2.2.2.2.2.2.2.1, s0.2.2.2.2.2.2.2.2.2.2.2.2.1, s0.2.2.2.2.2.2.2.2.2.2.2.2.2.drew⟩
  clear s0
  refine wp_region_held_drew (S := (fun w' => w'.cell? ⟨w.heap.size, 0, none⟩ = some (.slice At nt ct) ∧ w'.cell? ⟨w.heap.size, 1, none⟩ = some (.slice (some ⟨gk, ok, none⟩) nk ck) ∧ w'.cell? ⟨w.heap.size, 2, none⟩ = some (.int .i64 a) ∧ w'.cell? ⟨w.heap.size, 3, none⟩ = some (.int .i64 b) ∧ w'.cell? ⟨w.heap.size, 4, none⟩ = some (.int .i64 c) ∧ w'.cell? ⟨w.heap.size, 5, none⟩ = some (.int .i64 d) ∧ w'.cell? ⟨w.heap.size, 6, none⟩ = some (.int .i64 e) ∧ w'.cell? ⟨w.heap.size, 7, none⟩ = some (.int .i64 W) ∧ w'.cell? ⟨w.heap.size, 8, none⟩ = some (.int .i64 H) ∧ w'.cell? ⟨w.heap.size, 9, none⟩ = some (x) ∧ w'.cell? ⟨w.heap.size, 10, none⟩ = some (r) ∧ w'.cell? ⟨w.heap.size, 11, none⟩ = some (y) ∧ w'.cell? ⟨gk, ok + k * 6 + 5, none⟩ = some (.int .i64 vw) ∧ Kp w w')) (by kernel_rfl) ?_ (fun hHeld => ?_)
  · assumption
  generalize (w.alloc (.cells #[.slice At nt ct, .slice (some ⟨gk, ok, none⟩) nk ck, .int .i64 a, .int .i64 b, .int .i64 c, .int .i64 d, .int .i64 e, .int .i64 W, .int .i64 H, x, r, y] 41)).drew = V at *
  refine wpAnyH_take (i := 0) (oi := ⟨some 7, _, _, _, _, _⟩) (v := ?_) rfl (by kernel_rfl) (by kernel_rfl) (by kernel_rfl) (fun _ _ _ h => h) (Or.inl ⟨by rfl, ?_⟩) (by assumption) ?_
  rotate_left
  · intro w hSw; (try dsimp only at hSw); go_simp; (all_goals with_reducible rfl)
  try simp only [Act.put, List.setIfInBounds_toArray, List.set_cons_zero, List.set_cons_succ]
  refine wpAnyH_take (i := 1) (oi := ⟨some 8, _, _, _, _, _⟩) (v := ?_) rfl (by kernel_rfl) (by kernel_rfl) (by kernel_rfl) (fun _ _ _ h => h) (Or.inl ⟨by rfl, ?_⟩) (by assumption) ?_
  rotate_left
  · intro w hSw; (try dsimp only at hSw); go_simp; (all_goals with_reducible rfl)
  try simp only [Act.put, List.setIfInBounds_toArray, List.set_cons_zero, List.set_cons_succ]
  refine wpAnyH_take (i := 2) (oi := ⟨some 9, _, _, _, _, _⟩) (v := ?_) rfl (by kernel_rfl) (by kernel_rfl) (by kernel_rfl) (fun _ _ _ h => h) (Or.inl ⟨by rfl, ?_⟩) (by assumption) ?_
  rotate_left
  · intro w hSw; (try dsimp only at hSw); go_simp; (all_goals with_reducible rfl)
  try simp only [Act.put, List.setIfInBounds_toArray, List.set_cons_zero, List.set_cons_succ]
  refine wpAnyH_take (i := 3) (oi := ⟨some 10, _, _, _, _, _⟩) (v := ?_) rfl (by kernel_rfl) (by kernel_rfl) (by kernel_rfl) (fun _ _ _ h => h) (Or.inl ⟨by rfl, ?_⟩) (by assumption) ?_
  rotate_left
  · intro w hSw; (try dsimp only at hSw); go_simp; (all_goals with_reducible rfl)
  try simp only [Act.put, List.setIfInBounds_toArray, List.set_cons_zero, List.set_cons_succ]
  refine wpAnyH_take (i := 4) (oi := ⟨some 11, _, _, _, _, _⟩) (v := ?_) rfl (by kernel_rfl) (by kernel_rfl) (by kernel_rfl) (fun _ _ _ h => h) (Or.inl ⟨by rfl, ?_⟩) (by assumption) ?_
  rotate_left
  · intro w hSw; (try dsimp only at hSw); go_simp; (all_goals with_reducible rfl)
  try simp only [Act.put, List.setIfInBounds_toArray, List.set_cons_zero, List.set_cons_succ]
  refine wpAnyH_take (i := 5) (oi := ⟨some 12, _, _, _, _, _⟩) (v := ?_) rfl (by kernel_rfl) (by kernel_rfl) (by kernel_rfl) (fun _ _ _ h => h) (Or.inl ⟨by rfl, ?_⟩) (by assumption) ?_
  rotate_left
  · intro w hSw; (try dsimp only at hSw); go_simp; (all_goals with_reducible rfl)
  try simp only [Act.put, List.setIfInBounds_toArray, List.set_cons_zero, List.set_cons_succ]
  refine wpAnyH_take (i := 6) (oi := ⟨some 13, _, _, _, _, _⟩) (v := ?_) rfl (by kernel_rfl) (by kernel_rfl) (by kernel_rfl) (fun _ _ _ h => h) (Or.inl ⟨by rfl, ?_⟩) (by assumption) ?_
  rotate_left
  · intro w hSw; (try dsimp only at hSw); go_simp; (all_goals with_reducible rfl)
  try simp only [Act.put, List.setIfInBounds_toArray, List.set_cons_zero, List.set_cons_succ]
  refine wpAnyH_take (i := 7) (oi := ⟨some 14, _, _, _, _, _⟩) (v := ?_) rfl (by kernel_rfl) (by kernel_rfl) (by kernel_rfl) (fun _ _ _ h => h) (Or.inl ⟨by rfl, ?_⟩) (by assumption) ?_
  rotate_left
  · intro w hSw; (try dsimp only at hSw); go_simp; (all_goals with_reducible rfl)
  try simp only [Act.put, List.setIfInBounds_toArray, List.set_cons_zero, List.set_cons_succ]
  refine wpAnyH_take (i := 8) (oi := ⟨some 15, _, _, _, _, _⟩) (v := ?_) rfl (by kernel_rfl) (by kernel_rfl) (by kernel_rfl) (fun _ _ _ h => h) (Or.inl ⟨by rfl, ?_⟩) (by assumption) ?_
  rotate_left
  · intro w hSw; (try dsimp only at hSw); go_simp; (all_goals with_reducible rfl)
  try simp only [Act.put, List.setIfInBounds_toArray, List.set_cons_zero, List.set_cons_succ]
  refine wpAnyH_ready (rs := [9]) (by kernel_rfl) (by simp) ?_
  refine (AllReadyH.cons (o := ⟨some 16, _, _, _, _, _⟩) rfl (fun K hK => ?_) AllReadyH.nil)
  go_simp
  refine (C1.out _ (HB.out.keep hHeld.2.2.2.2.2.2.2.2.2.2.2.2.2)).mono ?_
  rintro e2 w2 ⟨v2', rfl, o2, k2⟩
  have hS2 : w2.cell? ⟨w.heap.size, 0, none⟩ = some (.slice At nt ct) ∧ w2.cell? ⟨w.heap.size, 1, none⟩ = some (.slice (some ⟨gk, ok, none⟩) nk ck) ∧ w2.cell? ⟨w.heap.size, 2, none⟩ = some (.int .i64 a) ∧ w2.cell? ⟨w.heap.size, 3, none⟩ = some (.int .i64 b) ∧ w2.cell? ⟨w.heap.size, 4, none⟩ = some (.int .i64 c) ∧ w2.cell? ⟨w.heap.size, 5, none⟩ = some (.int .i64 d) ∧ w2.cell? ⟨w.heap.size, 6, none⟩ = some (.int .i64 e) ∧ w2.cell? ⟨w.heap.size, 7, none⟩ = some (.int .i64 W) ∧ w2.cell? ⟨w.heap.size, 8, none⟩ = some (.int .i64 H) ∧ w2.cell? ⟨w.heap.size, 9, none⟩ = some (x) ∧ w2.cell? ⟨w.heap.size, 10, none⟩ = some (r) ∧ w2.cell? ⟨w.heap.size, 11, none⟩ = some (y) ∧ w2.cell? ⟨gk, ok + k * 6 + 5, none⟩ = some (.int .i64 vw) ∧ Kp w w2 := ⟨k2.cell hHeld.1, k2.cell hHeld.2.1, k2.cell hHeld.2.2.1, k2.cell hHeld.2.2.2.1, k2.cell hHeld.2.2.2.2.1, k2.cell hHeld.2.2.2.2.2.1, k2.cell hHeld.2.2.2.2.2.2.1, k2.cell hHeld.2.2.2.2.2.2.2.1, k2.cell hHeld.2.2.2.2.2.2.2.2.1, k2.cell hHeld.2.2.2.2.2.2.2.2.2.1, k2.cell hHeld.2.2.2.2.2.2.2.2.2.2.1, k2.cell hHeld.2.2.2.2.2.2.2.2.2.2.2.1, k2.cell hHeld.2.2.2.2.2.2.2.2.2.2.2.2.1, hHeld.2.2.2.2.2.2.2.2.2.2.2.2.2.trans k2⟩
  have KV := hHeld.2.2.2.2.2.2.2.2.2.2.2.2.2
  have O2 := Lib.hid (o2.base KV.size)
  obtain ⟨A2', c2', e2'⟩ := O2.out.slice
  subst e2'
  clear o2 k2
  go_wp2_with fail
  refine hK.out _ _ ?_ (fun hHeld => ?_)
  · (try dsimp only); (first | assumption)
  clear hK K
  try simp only [Act.put, List.setIfInBounds_toArray, List.set_cons_zero, List.set_cons_succ]
  refine wpAnyH_take (i := 10) (oi := ⟨some 6, _, _, _, _, _⟩) (v := ?_) rfl (by kernel_rfl) (by kernel_rfl) (by kernel_rfl) (fun _ _ _ h => h) (Or.inl ⟨by rfl, ?_⟩) (by assumption) ?_
  rotate_left
  · intro w hSw; (try dsimp only at hSw); go_simp; (all_goals with_reducible rfl)
  try simp only [Act.put, List.setIfInBounds_toArray, List.set_cons_zero, List.set_cons_succ]
  refine wpAnyH_done (by kernel_rfl) ?_ _
  go_wp2_with fail
  go_ret
  exact ⟨_, rfl, O2.out, hHeld.2.2.2.2.2.2.2.2.2.2.2.2.2⟩

end Go.Proofs.YtfohhofpfmbheaaGreatDoor
