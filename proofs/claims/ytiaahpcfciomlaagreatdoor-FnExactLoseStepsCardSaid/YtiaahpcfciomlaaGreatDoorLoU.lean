/-
  LoseSteps of the program: a new state. Nothing that was there is changed. The named variables hold what the program's text lays.
-/
import Derived.Test.YtiaahpcfciomlaaGreatDoorLoS
import Derived.StillTailTactics
namespace Go.Proofs.YtiaahpcfciomlaaGreatDoor
open Go.RowKit

theorem OwnU.cells {w : World} {base G N c q : Nat} {us : List Uni} {x : Uni} (h : OwnU w base (.slice (some ⟨G, 0, none⟩) N c) us) (hx : us[q]? = some x) : UniAt w G (q * 4) x := by
  obtain ⟨A2, c2, e2, h2⟩ := h.rd
  simp only [Value.slice.injEq] at e2
  obtain ⟨e2, _, _⟩ := e2
  obtain ⟨g2, o2, e3, h3⟩ := h2 (by have := (List.getElem?_eq_some_iff.1 hx).1; omega)
  rw [← e2] at e3
  simp only [Option.some.injEq, Addr.mk.injEq] at e3
  obtain ⟨rfl, rfl, _⟩ := e3
  have h4 := h3 q _ hx
  simp only [Nat.zero_add] at h4
  exact h4

def LossAt (w : World) : Prop := SpanAt w 1 0 4
theorem LossAt.keep {w w' : World} (h : LossAt w) (k : Kp w w') : LossAt w' := ⟨k.cell h.1, k.cell h.2⟩
theorem cellsU_unit : ∀ (us : List Uni) (n : Nat) (x : Uni) (s k a t : Int), us[n]? = some x → ((((cellsU us).set (n * 4) (.int .i64 s)).set (n * 4 + 1) (.int .i64 k)).set (n * 4 + 2) (.int .i64 a)).set (n * 4 + 3) (.int .i64 t) = cellsU (us.set n ⟨s, k, a, t⟩)
  | [], _, _, _, _, _, _, h => by simp at h
  | y :: us, 0, x, s, k, a, t, h => rfl
  | y :: us, n + 1, x, s, k, a, t, h => by
    have := cellsU_unit us n x s k a t (by simpa using h)
    have e0 : (n + 1) * 4 = n * 4 + 1 + 1 + 1 + 1 := by omega
    have e1 : (n + 1) * 4 + 1 = n * 4 + 1 + 1 + 1 + 1 + 1 := by omega
    have e2 : (n + 1) * 4 + 2 = n * 4 + 2 + 1 + 1 + 1 + 1 := by omega
    have e3 : (n + 1) * 4 + 3 = n * 4 + 3 + 1 + 1 + 1 + 1 := by omega
    rw [e1, e2, e3, e0, List.set_cons_succ]
    simp only [cellsU, List.set_cons_succ, this]
theorem OwnU.unit {w : World} {base G N c n : Nat} {us : List Uni} {x : Uni} {s k a t : Int} (h : OwnU w base (.slice (some ⟨G, 0, none⟩) N c) us) (hx : us[n]? = some x) : OwnU ((((w.setCell ⟨G, n * 4, none⟩ (.int .i64 s)).setCell ⟨G, n * 4 + 1, none⟩ (.int .i64 k)).setCell ⟨G, n * 4 + 2, none⟩ (.int .i64 a)).setCell ⟨G, n * 4 + 3, none⟩ (.int .i64 t)) base (.slice (some ⟨G, 0, none⟩) N c) (us.set n ⟨s, k, a, t⟩) := by
  have hN : N = us.length := by
    obtain ⟨A, c', e⟩ := h.slice
    simp only [Value.slice.injEq] at e
    exact e.2.1
  subst hN
  have h2 := (World.ownsRow.stored (World.ownsRow.stored (World.ownsRow.stored (World.ownsRow.stored h (n * 4) (.int .i64 s)).1 (n * 4 + 1) (.int .i64 k)).1 (n * 4 + 2) (.int .i64 a)).1 (n * 4 + 3) (.int .i64 t)).1
  rw [cellsU_unit us n x s k a t hx] at h2
  unfold OwnU
  rw [List.length_set]
  exact h2

set_option maxRecDepth 100000 in
set_option maxHeartbeats 4000000 in
theorem loseStepsP_any (At Ak : Option Addr) (nt nk ct ck : Nat) (l : List Ter) (m : List Knd) (a b c d e W H : Int) (x r y : Value) (lt lr ld : List Int) (T Z : Int) (g off N cp : Nat) (us : List Uni) (un n : Int) (w : World) (hs : Spans w) (ht : Tab w) (hu : SpU w) (hl : SpanAt w 1 0 4) (hB : BrdAt w At Ak nt nk l m x r y lt lr ld) (hS : StaAt w (.slice (some ⟨g, off, none⟩) N cp) us) (hN : us.length = N) :
    Calls Tryz.prog 27 #[bv (.slice At nt ct) (.slice Ak nk ck) a b c d e W H x r y, sv T Z (.slice (some ⟨g, off, none⟩) N cp), .int .i64 un, .int .i64 n] w (StPost (((brdOk ⟨l, m, a, b, c, d, e⟩ W H lt lr ld && staOk ⟨l, m, a, b, c, d, e⟩ W H lt T Z us) && inB un us.length) && spB 0 4 n) T Z (loL us un.toNat n) w) := by
  have KA : Kp w (((w.alloc (.cells #[.slice At nt ct, .slice Ak nk ck, .int .i64 a, .int .i64 b, .int .i64 c, .int .i64 d, .int .i64 e, .int .i64 W, .int .i64 H, x, r, y] 44)).alloc (.cells #[.int .i64 T, .int .i64 Z, .slice (some ⟨g, off, none⟩) N cp] 48)).alloc (.cells #[.int .i64 0, .int .i64 0, .slice none 0 0] 48)) := (((Kp.refl w).alloc _).alloc _).alloc _
  have s0 : (((w.alloc (.cells #[.slice At nt ct, .slice Ak nk ck, .int .i64 a, .int .i64 b, .int .i64 c, .int .i64 d, .int .i64 e, .int .i64 W, .int .i64 H, x, r, y] 44)).alloc (.cells #[.int .i64 T, .int .i64 Z, .slice (some ⟨g, off, none⟩) N cp] 48)).alloc (.cells #[.int .i64 0, .int .i64 0, .slice none 0 0] 48)).cell? ⟨w.heap.size, 0, none⟩ = some (.slice At nt ct) ∧ (((w.alloc (.cells #[.slice At nt ct, .slice Ak nk ck, .int .i64 a, .int .i64 b, .int .i64 c, .int .i64 d, .int .i64 e, .int .i64 W, .int .i64 H, x, r, y] 44)).alloc (.cells #[.int .i64 T, .int .i64 Z, .slice (some ⟨g, off, none⟩) N cp] 48)).alloc (.cells #[.int .i64 0, .int .i64 0, .slice none 0 0] 48)).cell? ⟨w.heap.size, 1, none⟩ = some (.slice Ak nk ck) ∧ (((w.alloc (.cells #[.slice At nt ct, .slice Ak nk ck, .int .i64 a, .int .i64 b, .int .i64 c, .int .i64 d, .int .i64 e, .int .i64 W, .int .i64 H, x, r, y] 44)).alloc (.cells #[.int .i64 T, .int .i64 Z, .slice (some ⟨g, off, none⟩) N cp] 48)).alloc (.cells #[.int .i64 0, .int .i64 0, .slice none 0 0] 48)).cell? ⟨w.heap.size, 2, none⟩ = some (.int .i64 a) ∧ (((w.alloc (.cells #[.slice At nt ct, .slice Ak nk ck, .int .i64 a, .int .i64 b, .int .i64 c, .int .i64 d, .int .i64 e, .int .i64 W, .int .i64 H, x, r, y] 44)).alloc (.cells #[.int .i64 T, .int .i64 Z, .slice (some ⟨g, off, none⟩) N cp] 48)).alloc (.cells #[.int .i64 0, .int .i64 0, .slice none 0 0] 48)).cell? ⟨w.heap.size, 3, none⟩ = some (.int .i64 b) ∧ (((w.alloc (.cells #[.slice At nt ct, .slice Ak nk ck, .int .i64 a, .int .i64 b, .int .i64 c, .int .i64 d, .int .i64 e, .int .i64 W, .int .i64 H, x, r, y] 44)).alloc (.cells #[.int .i64 T, .int .i64 Z, .slice (some ⟨g, off, none⟩) N cp] 48)).alloc (.cells #[.int .i64 0, .int .i64 0, .slice none 0 0] 48)).cell? ⟨w.heap.size, 4, none⟩ = some (.int .i64 c) ∧ (((w.alloc (.cells #[.slice At nt ct, .slice Ak nk ck, .int .i64 a, .int .i64 b, .int .i64 c, .int .i64 d, .int .i64 e, .int .i64 W, .int .i64 H, x, r, y] 44)).alloc (.cells #[.int .i64 T, .int .i64 Z, .slice (some ⟨g, off, none⟩) N cp] 48)).alloc (.cells #[.int .i64 0, .int .i64 0, .slice none 0 0] 48)).cell? ⟨w.heap.size, 5, none⟩ = some (.int .i64 d) ∧ (((w.alloc (.cells #[.slice At nt ct, .slice Ak nk ck, .int .i64 a, .int .i64 b, .int .i64 c, .int .i64 d, .int .i64 e, .int .i64 W, .int .i64 H, x, r, y] 44)).alloc (.cells #[.int .i64 T, .int .i64 Z, .slice (some ⟨g, off, none⟩) N cp] 48)).alloc (.cells #[.int .i64 0, .int .i64 0, .slice none 0 0] 48)).cell? ⟨w.heap.size, 6, none⟩ = some (.int .i64 e) ∧ (((w.alloc (.cells #[.slice At nt ct, .slice Ak nk ck, .int .i64 a, .int .i64 b, .int .i64 c, .int .i64 d, .int .i64 e, .int .i64 W, .int .i64 H, x, r, y] 44)).alloc (.cells #[.int .i64 T, .int .i64 Z, .slice (some ⟨g, off, none⟩) N cp] 48)).alloc (.cells #[.int .i64 0, .int .i64 0, .slice none 0 0] 48)).cell? ⟨w.heap.size, 7, none⟩ = some (.int .i64 W) ∧ (((w.alloc (.cells #[.slice At nt ct, .slice Ak nk ck, .int .i64 a, .int .i64 b, .int .i64 c, .int .i64 d, .int .i64 e, .int .i64 W, .int .i64 H, x, r, y] 44)).alloc (.cells #[.int .i64 T, .int .i64 Z, .slice (some ⟨g, off, none⟩) N cp] 48)).alloc (.cells #[.int .i64 0, .int .i64 0, .slice none 0 0] 48)).cell? ⟨w.heap.size, 8, none⟩ = some (.int .i64 H) ∧ (((w.alloc (.cells #[.slice At nt ct, .slice Ak nk ck, .int .i64 a, .int .i64 b, .int .i64 c, .int .i64 d, .int .i64 e, .int .i64 W, .int .i64 H, x, r, y] 44)).alloc (.cells #[.int .i64 T, .int .i64 Z, .slice (some ⟨g, off, none⟩) N cp] 48)).alloc (.cells #[.int .i64 0, .int .i64 0, .slice none 0 0] 48)).cell? ⟨w.heap.size, 9, none⟩ = some (x) ∧ (((w.alloc (.cells #[.slice At nt ct, .slice Ak nk ck, .int .i64 a, .int .i64 b, .int .i64 c, .int .i64 d, .int .i64 e, .int .i64 W, .int .i64 H, x, r, y] 44)).alloc (.cells #[.int .i64 T, .int .i64 Z, .slice (some ⟨g, off, none⟩) N cp] 48)).alloc (.cells #[.int .i64 0, .int .i64 0, .slice none 0 0] 48)).cell? ⟨w.heap.size, 10, none⟩ = some (r) ∧ (((w.alloc (.cells #[.slice At nt ct, .slice Ak nk ck, .int .i64 a, .int .i64 b, .int .i64 c, .int .i64 d, .int .i64 e, .int .i64 W, .int .i64 H, x, r, y] 44)).alloc (.cells #[.int .i64 T, .int .i64 Z, .slice (some ⟨g, off, none⟩) N cp] 48)).alloc (.cells #[.int .i64 0, .int .i64 0, .slice none 0 0] 48)).cell? ⟨w.heap.size, 11, none⟩ = some (y) ∧ (((w.alloc (.cells #[.slice At nt ct, .slice Ak nk ck, .int .i64 a, .int .i64 b, .int .i64 c, .int .i64 d, .int .i64 e, .int .i64 W, .int .i64 H, x, r, y] 44)).alloc (.cells #[.int .i64 T, .int .i64 Z, .slice (some ⟨g, off, none⟩) N cp] 48)).alloc (.cells #[.int .i64 0, .int .i64 0, .slice none 0 0] 48)).cell? ⟨w.heap.size + 1, 0, none⟩ = some (.int .i64 T) ∧ (((w.alloc (.cells #[.slice At nt ct, .slice Ak nk ck, .int .i64 a, .int .i64 b, .int .i64 c, .int .i64 d, .int .i64 e, .int .i64 W, .int .i64 H, x, r, y] 44)).alloc (.cells #[.int .i64 T, .int .i64 Z, .slice (some ⟨g, off, none⟩) N cp] 48)).alloc (.cells #[.int .i64 0, .int .i64 0, .slice none 0 0] 48)).cell? ⟨w.heap.size + 1, 1, none⟩ = some (.int .i64 Z) ∧ (((w.alloc (.cells #[.slice At nt ct, .slice Ak nk ck, .int .i64 a, .int .i64 b, .int .i64 c, .int .i64 d, .int .i64 e, .int .i64 W, .int .i64 H, x, r, y] 44)).alloc (.cells #[.int .i64 T, .int .i64 Z, .slice (some ⟨g, off, none⟩) N cp] 48)).alloc (.cells #[.int .i64 0, .int .i64 0, .slice none 0 0] 48)).cell? ⟨w.heap.size + 1, 2, none⟩ = some (.slice (some ⟨g, off, none⟩) N cp) ∧ Kp w (((w.alloc (.cells #[.slice At nt ct, .slice Ak nk ck, .int .i64 a, .int .i64 b, .int .i64 c, .int .i64 d, .int .i64 e, .int .i64 W, .int .i64 H, x, r, y] 44)).alloc (.cells #[.int .i64 T, .int .i64 Z, .slice (some ⟨g, off, none⟩) N cp] 48)).alloc (.cells #[.int .i64 0, .int .i64 0, .slice none 0 0] 48)) := ⟨by simp [go_sem], by simp [go_sem], by simp [go_sem], by simp [go_sem], by simp [go_sem], by simp [go_sem], by simp [go_sem], by simp [go_sem], by simp [go_sem], by simp [go_sem], by simp [go_sem], by simp [go_sem], by simp [go_sem], by simp [go_sem], by simp [go_sem], KA⟩
  have l0 : LivS (((w.alloc (.cells #[.slice At nt ct, .slice Ak nk ck, .int .i64 a, .int .i64 b, .int .i64 c, .int .i64 d, .int .i64 e, .int .i64 W, .int .i64 H, x, r, y] 44)).alloc (.cells #[.int .i64 T, .int .i64 Z, .slice (some ⟨g, off, none⟩) N cp] 48)).alloc (.cells #[.int .i64 0, .int .i64 0, .slice none 0 0] 48)) (w.heap.size + 1 + 1) (.int .i64 0) (.int .i64 0) (.slice none 0 0) := ⟨by simp [go_sem], by simp [go_sem], by simp [go_sem]⟩
  have C1 := Lib.hid (isStateOn_any At Ak nt nk ct ck l m a b c d e W H x r y lt lr ld T Z (.slice (some ⟨g, off, none⟩) N cp) us _ (hs.keep KA) (ht.keep KA) (hu.keep KA) (hB.keep KA) (hS.keep KA))
  have HS := Lib.hid hS
  have HL := Lib.hid hl
  have hn6 := hS.b
  rw [hN] at hn6
  rw [hN]
  have CN : Hid (∀ w, Calls Tryz.prog 52 #[sv T Z (.slice (some ⟨g, off, none⟩) N cp), .int .i64 un] w fun e w' => e = .returned (.bool (inB un N)) ∧ Kp w w') := Lib.hid fun w => isUnitNumber_any T Z _ N cp un w
  have CL : Hid (∀ w, Calls Tryz.prog 48 #[.agg #[.int .i64 0, .int .i64 4], .int .i64 n] w fun e w' => e = .returned (.bool (spB 0 4 n)) ∧ Kp w w') := Lib.hid fun w => has_any 0 4 n w
  cases ho : brdOk ⟨l, m, a, b, c, d, e⟩ W H lt lr ld && staOk ⟨l, m, a, b, c, d, e⟩ W H lt T Z us
  · rw [ho] at C1
    rw [Bool.false_and, Bool.false_and]
    clear hs ht hu hl hB hS ho
    go_enter Tryz.func27, Tryz.ntmps27
    go_wp2_with fail
    refine C1.out.mono ?_
    rintro e1 w1 ⟨rfl, k1⟩
    have l1 := livS_keep k1 l0
    have K1 := KA.trans k1
    clear s0 l0
    go_wp2_with fail
    exact bodyPost_ret (v := .tuple #[sv 0 0 (.slice none 0 0), .bool false]) (by simp [results, Tryz.results27, go_sem, *]) rfl (StPost.no (((K1.setCell (by simp <;> omega) _).setCell (by simp <;> omega) _).setCell (by simp <;> omega) _))
  rw [ho] at C1
  rw [Bool.true_and]
  cases hin : inB un N
  · rw [hin] at CN
    rw [Bool.false_and]
    clear hs ht hu hl hB hS ho hin
    go_enter Tryz.func27, Tryz.ntmps27
    go_wp2_with fail
    refine C1.out.mono ?_
    rintro e1 w1 ⟨rfl, k1⟩
    have s1 := keepp15 k1 s0
    have l1 := livS_keep k1 l0
    clear s0 l0
    go_wp2_with fail
    refine (CN.out _).mono ?_
    rintro e2 w2 ⟨rfl, k2⟩
    have s2 := keepp15 k2 s1
    have l2 := livS_keep k2 l1
    have K2 := s2.2.2.2.2.2.2.2.2.2.2.2.2.2.2.2
    clear s1 l1 s2
    go_wp2_with fail
    exact bodyPost_ret (v := .tuple #[sv 0 0 (.slice none 0 0), .bool false]) (by simp [results, Tryz.results27, go_sem, *]) rfl (StPost.no (((K2.setCell (by simp <;> omega) _).setCell (by simp <;> omega) _).setCell (by simp <;> omega) _))
  rw [hin] at CN
  rw [Bool.true_and]
  cases hsp : spB 0 4 n
  · rw [hsp] at CL
    clear hs ht hu hl hB hS ho hin hsp
    go_enter Tryz.func27, Tryz.ntmps27
    go_wp2_with fail
    refine C1.out.mono ?_
    rintro e1 w1 ⟨rfl, k1⟩
    have s1 := keepp15 k1 s0
    have l1 := livS_keep k1 l0
    clear s0 l0
    go_wp2_with fail
    refine (CN.out _).mono ?_
    rintro e2 w2 ⟨rfl, k2⟩
    have s2 := keepp15 k2 s1
    have l2 := livS_keep k2 l1
    have K2 := s2.2.2.2.2.2.2.2.2.2.2.2.2.2.2.2
    have G0 := K2.cell HL.out.1
    have G1 := K2.cell HL.out.2
    clear s1 l1
    go_wp2_with fail
    refine (CL.out _).mono ?_
    rintro e3 w3 ⟨rfl, k3⟩
    have l3 := livS_keep k3 l2
    have K3 := K2.trans k3
    clear s2 l2 G0 G1
    go_wp2_with fail
    exact bodyPost_ret (v := .tuple #[sv 0 0 (.slice none 0 0), .bool false]) (by simp [results, Tryz.results27, go_sem, *]) rfl (StPost.no (((K3.setCell (by simp <;> omega) _).setCell (by simp <;> omega) _).setCell (by simp <;> omega) _))
  rw [hsp] at CL
  have hn : 0 ≤ n ∧ n ≤ 4 := by simpa [spB] using hsp
  obtain ⟨U, rfl, hU⟩ := inB_at hin
  obtain ⟨px, hx⟩ : ∃ x, us[U]? = some x := ⟨us[U]'(by omega), List.getElem?_eq_getElem _⟩
  have htx : isI64 px.t ∧ 0 ≤ px.t := by
    simp only [Bool.and_eq_true] at ho
    exact ⟨(hS.i px (List.mem_of_getElem? hx)).2.2.2, (uniOk_side ((staOk_parts ho.2).2.2.1 px (List.mem_of_getElem? hx))).2.2.1.1⟩
  have HN := Lib.hid hN
  have CC : Hid (∀ w, RdU w (.slice (some ⟨g, off, none⟩) N cp) us → Calls Tryz.prog 53 #[sv T Z (.slice (some ⟨g, off, none⟩) N cp)] w fun e w' => ∃ A' c', e = .returned (sv T Z (.slice A' N c')) ∧ OwnU w' w.heap.size (.slice A' N c') us ∧ Kp w w') := Lib.hid fun w h => copyState_any T Z g off N cp us w h hN hn6
  simp only [Int.toNat_natCast]
  obtain ⟨qs, qk, qa, qt, hy⟩ : ∃ s k a t, loU px n = ⟨s, k, a, t⟩ := ⟨_, _, _, _, rfl⟩
  have hLL : loL us U n = us.set U ⟨qs, qk, qa, qt⟩ := by rw [loL_at hx, hy]
  have HA : Hid (UniAt w g (off + U * 4) px) := Lib.hid (by
    obtain ⟨A2, c2, e2, h2⟩ := hS.rd
    simp only [Value.slice.injEq] at e2
    obtain ⟨e2, _, _⟩ := e2
    obtain ⟨g2, o2, e3, h3⟩ := h2 (by have := (List.getElem?_eq_some_iff.1 hx).1; omega)
    rw [← e2] at e3
    simp only [Option.some.injEq, Addr.mk.injEq] at e3
    obtain ⟨rfl, rfl, _⟩ := e3
    exact h3 U px hx)
  obtain ⟨sx, kx, ax, tx⟩ := px
  simp only at htx
  have CX : Hid (∀ w, Calls Tryz.prog 57 #[ux sx kx ax tx, .int .i64 n] w fun e w' => e = .returned (ux qs qk qa qt) ∧ Kp w w') := Lib.hid fun w => by
    have h9 := htx.1
    unfold isI64 at h9
    by_cases hz : tx - n ≤ 0
    · rw [loU, if_pos (by simp only; exact hz)] at hy
      simp only [Uni.mk.injEq] at hy
      obtain ⟨rfl, rfl, rfl, rfl⟩ := hy
      exact losing_lo sx kx ax tx n w (by omega) hz
    · rw [loU, if_neg (by simp only; exact hz)] at hy
      simp only [Uni.mk.injEq] at hy
      obtain ⟨rfl, rfl, rfl, rfl⟩ := hy
      exact losing_hi sx kx ax tx n w (by omega) (by omega)
  have HX := Lib.hid hx
  have HE := Lib.hid hLL
  rw [hLL]
  clear hs ht hu hl hB hS ho hin hx hN htx hsp hn hLL hy
  have hlt' : (U : Int) < N := by omega
  have hUO : ((U : Int)).toNat = U := by omega
  go_enter Tryz.func27, Tryz.ntmps27
  go_wp2_with fail
  refine C1.out.mono ?_
  rintro e1 w1 ⟨rfl, k1⟩
  have s1 := keepp15 k1 s0
  have l1 := livS_keep k1 l0
  clear s0 l0
  go_wp2_with fail
  refine (CN.out _).mono ?_
  rintro e2 w2 ⟨rfl, k2⟩
  have s2 := keepp15 k2 s1
  have l2 := livS_keep k2 l1
  have K2 := s2.2.2.2.2.2.2.2.2.2.2.2.2.2.2.2
  have G0 := K2.cell HL.out.1
  have G1 := K2.cell HL.out.2
  clear s1 l1
  go_wp2_with fail
  refine (CL.out _).mono ?_
  rintro e3 w3 ⟨rfl, k3⟩
  have s3 := keepp15 k3 s2
  have l3 := livS_keep k3 l2
  clear s2 l2 G0 G1 K2
  go_wp2_with fail
  refine (CC.out _ (HS.out.keep s3.2.2.2.2.2.2.2.2.2.2.2.2.2.2.2).rd).mono ?_
  rintro e4 w4 ⟨A', c', rfl, o4, k4⟩
  obtain ⟨G, rfl, hG, hNN⟩ := o4.block_at (by have := HN.out; omega)
  clear hNN
  have s4 := keepp15 k4 s3
  have l4 := livS_keep k4 l3
  have hz3 := cell_lt l3.1.1
  have hz4 := cell_lt l4.1.1
  have hG4 := (World.ownsRow.lt o4 G rfl).2
  have KK4 := s4.2.2.2.2.2.2.2.2.2.2.2.2.2.2.2
  have kg : Kp w4 (w4.alloc (.cells #[.int .i64 T, .int .i64 Z, .slice (some ⟨G, 0, none⟩) N c'] 48)) := (Kp.refl w4).alloc _
  have O5 := Lib.hid ((o4.keep kg).keep (Kp.refl (w4.alloc (.cells #[.int .i64 T, .int .i64 Z, .slice (some ⟨G, 0, none⟩) N c'] 48))).drew)
  have l5 := livS_keep (Kp.refl (w4.alloc (.cells #[.int .i64 T, .int .i64 Z, .slice (some ⟨G, 0, none⟩) N c'] 48))).drew (livS_keep kg l4)
  have m5 : LivS (w4.alloc (.cells #[.int .i64 T, .int .i64 Z, .slice (some ⟨G, 0, none⟩) N c'] 48)).drew w4.heap.size (.int .i64 T) (.int .i64 Z) (.slice (some ⟨G, 0, none⟩) N c') := livS_keep (Kp.refl (w4.alloc (.cells #[.int .i64 T, .int .i64 Z, .slice (some ⟨G, 0, none⟩) N c'] 48))).drew ⟨by simp [go_sem], by simp [go_sem], by simp [go_sem]⟩
  have u4 := (HA.out.keep (KK4.trans kg))
  have hg0 : g < w.heap.size := cell_lt HA.out.1
  have S5 : (w4.alloc (.cells #[.int .i64 T, .int .i64 Z, .slice (some ⟨G, 0, none⟩) N c'] 48)).cell? ⟨w4.heap.size, 2, none⟩ = some (.slice (some ⟨G, 0, none⟩) N c') ∧ (w4.alloc (.cells #[.int .i64 T, .int .i64 Z, .slice (some ⟨G, 0, none⟩) N c'] 48)).cell? ⟨w.heap.size + 1, 2, none⟩ = some (.slice (some ⟨g, off, none⟩) N cp) ∧ (w4.alloc (.cells #[.int .i64 T, .int .i64 Z, .slice (some ⟨G, 0, none⟩) N c'] 48)).cell? ⟨g, off + U * 4, none⟩ = some (.int .i64 sx) ∧ (w4.alloc (.cells #[.int .i64 T, .int .i64 Z, .slice (some ⟨G, 0, none⟩) N c'] 48)).cell? ⟨g, off + U * 4 + 1, none⟩ = some (.int .i64 kx) ∧ (w4.alloc (.cells #[.int .i64 T, .int .i64 Z, .slice (some ⟨G, 0, none⟩) N c'] 48)).cell? ⟨g, off + U * 4 + 2, none⟩ = some (.int .i64 ax) ∧ (w4.alloc (.cells #[.int .i64 T, .int .i64 Z, .slice (some ⟨G, 0, none⟩) N c'] 48)).cell? ⟨g, off + U * 4 + 3, none⟩ = some (.int .i64 tx) ∧ Kp w (w4.alloc (.cells #[.int .i64 T, .int .i64 Z, .slice (some ⟨G, 0, none⟩) N c'] 48)) := ⟨by simp [go_sem], kg.cell s4.2.2.2.2.2.2.2.2.2.2.2.2.2.2.1, u4.1, u4.2.1, u4.2.2.1, u4.2.2.2, KK4.trans kg⟩
  clear o4 k4 kg s4 s3 l3 l4 KK4 u4
  go_upto_region 4 with (fail)
  generalize (w4.alloc (.cells #[.int .i64 T, .int .i64 Z, .slice (some ⟨G, 0, none⟩) N c'] 48)) = w5 at *
  have kd := (Kp.refl w5).drew
  have S5d : w5.drew.cell? ⟨w4.heap.size, 2, none⟩ = some (.slice (some ⟨G, 0, none⟩) N c') ∧ w5.drew.cell? ⟨w.heap.size + 1, 2, none⟩ = some (.slice (some ⟨g, off, none⟩) N cp) ∧ w5.drew.cell? ⟨g, off + U * 4, none⟩ = some (.int .i64 sx) ∧ w5.drew.cell? ⟨g, off + U * 4 + 1, none⟩ = some (.int .i64 kx) ∧ w5.drew.cell? ⟨g, off + U * 4 + 2, none⟩ = some (.int .i64 ax) ∧ w5.drew.cell? ⟨g, off + U * 4 + 3, none⟩ = some (.int .i64 tx) ∧ Kp w w5.drew := ⟨kd.cell S5.1, kd.cell S5.2.1, kd.cell S5.2.2.1, kd.cell S5.2.2.2.1, kd.cell S5.2.2.2.2.1, kd.cell S5.2.2.2.2.2.1, S5.2.2.2.2.2.2.trans kd⟩
  clear S5 kd
  refine wp_region_held_drew (S := (fun w' => w'.cell? ⟨w4.heap.size, 2, none⟩ = some (.slice (some ⟨G, 0, none⟩) N c') ∧ w'.cell? ⟨w.heap.size + 1, 2, none⟩ = some (.slice (some ⟨g, off, none⟩) N cp) ∧ w'.cell? ⟨g, off + U * 4, none⟩ = some (.int .i64 sx) ∧ w'.cell? ⟨g, off + U * 4 + 1, none⟩ = some (.int .i64 kx) ∧ w'.cell? ⟨g, off + U * 4 + 2, none⟩ = some (.int .i64 ax) ∧ w'.cell? ⟨g, off + U * 4 + 3, none⟩ = some (.int .i64 tx) ∧ Kp w w')) (by kernel_rfl) ?_ (fun hHeld => ?_)
  · assumption
  generalize w5.drew = V at *
  refine wpAnyH_take (i := 0) (oi := ⟨some 30, _, _, _, _, _⟩) (v := ?_) rfl (by kernel_rfl) (by kernel_rfl) (by kernel_rfl) (fun _ _ _ h => h) (Or.inl ⟨by rfl, ?_⟩) (by assumption) ?_
  rotate_left
  · intro w hSw; (try dsimp only at hSw); go_simp; (all_goals with_reducible rfl)
  simp only [Act.put, List.setIfInBounds_toArray, List.set_cons_zero, List.set_cons_succ]
  refine wpAnyH_take (i := 1) (oi := ⟨some 31, _, _, _, _, _⟩) (v := ?_) rfl (by kernel_rfl) (by kernel_rfl) (by kernel_rfl) (fun _ _ _ h => h) (Or.inl ⟨by rfl, ?_⟩) (by assumption) ?_
  rotate_left
  · intro w hSw; (try dsimp only at hSw); go_simp; (all_goals with_reducible rfl)
  simp only [Act.put, List.setIfInBounds_toArray, List.set_cons_zero, List.set_cons_succ]
  refine wpAnyH_take (i := 2) (oi := ⟨some 32, _, _, _, _, _⟩) (v := ?_) rfl (by kernel_rfl) (by kernel_rfl) (by kernel_rfl) (fun _ _ _ h => h) (Or.inl ⟨by rfl, ?_⟩) (by assumption) ?_
  rotate_left
  · intro w hSw; (try dsimp only at hSw); go_simp; (all_goals with_reducible rfl)
  simp only [Act.put, List.setIfInBounds_toArray, List.set_cons_zero, List.set_cons_succ]
  refine wpAnyH_take (i := 3) (oi := ⟨some 33, _, _, _, _, _⟩) (v := ?_) rfl (by kernel_rfl) (by kernel_rfl) (by kernel_rfl) (fun _ _ _ h => h) (Or.inl ⟨by rfl, ?_⟩) (by assumption) ?_
  rotate_left
  · intro w hSw; (try dsimp only at hSw); go_simp; (all_goals with_reducible rfl)
  simp only [Act.put, List.setIfInBounds_toArray, List.set_cons_zero, List.set_cons_succ]
  refine wpAnyH_take (i := 4) (oi := ⟨some 34, _, _, _, _, _⟩) (v := ?_) rfl (by kernel_rfl) (by kernel_rfl) (by kernel_rfl) (fun _ _ _ h => h) (Or.inl ⟨by rfl, ?_⟩) (by assumption) ?_
  rotate_left
  · intro w hSw; (try dsimp only at hSw); go_simp; (all_goals with_reducible rfl)
  simp only [Act.put, List.setIfInBounds_toArray, List.set_cons_zero, List.set_cons_succ]
  refine wpAnyH_take (i := 5) (oi := ⟨some 35, _, _, _, _, _⟩) (v := ?_) rfl (by kernel_rfl) (by kernel_rfl) (by kernel_rfl) (fun _ _ _ h => h) (Or.inl ⟨by rfl, ?_⟩) (by assumption) ?_
  rotate_left
  · intro w hSw; (try dsimp only at hSw); go_simp; (all_goals with_reducible rfl)
  simp only [Act.put, List.setIfInBounds_toArray, List.set_cons_zero, List.set_cons_succ]
  refine wpAnyH_take (i := 6) (oi := ⟨some 36, _, _, _, _, _⟩) (v := ?_) rfl (by kernel_rfl) (by kernel_rfl) (by kernel_rfl) (fun _ _ _ h => h) (Or.inl ⟨by rfl, ?_⟩) (by assumption) ?_
  rotate_left
  · intro w hSw; (try dsimp only at hSw); go_simp; (all_goals with_reducible rfl)
  simp only [Act.put, List.setIfInBounds_toArray, List.set_cons_zero, List.set_cons_succ]
  refine wpAnyH_take (i := 7) (oi := ⟨some 37, _, _, _, _, _⟩) (v := ?_) rfl (by kernel_rfl) (by kernel_rfl) (by kernel_rfl) (fun _ _ _ h => h) (Or.inl ⟨by rfl, ?_⟩) (by assumption) ?_
  rotate_left
  · intro w hSw; (try dsimp only at hSw); go_simp; (all_goals with_reducible rfl)
  simp only [Act.put, List.setIfInBounds_toArray, List.set_cons_zero, List.set_cons_succ]
  refine wpAnyH_take (i := 8) (oi := ⟨some 38, _, _, _, _, _⟩) (v := ?_) rfl (by kernel_rfl) (by kernel_rfl) (by kernel_rfl) (fun _ _ _ h => h) (Or.inl ⟨by rfl, ?_⟩) (by assumption) ?_
  rotate_left
  · intro w hSw; (try dsimp only at hSw); go_simp; (all_goals with_reducible rfl)
  simp only [Act.put, List.setIfInBounds_toArray, List.set_cons_zero, List.set_cons_succ]
  refine wpAnyH_ready (rs := [9]) (by kernel_rfl) (by simp) ?_
  refine (AllReadyH.cons (o := ⟨some 39, _, _, _, _, _⟩) rfl (fun K hK => ?_) AllReadyH.nil)
  go_simp
  refine (CX.out _).mono ?_
  rintro e7 w7 ⟨rfl, k7⟩
  have hS7 : w7.cell? ⟨w4.heap.size, 2, none⟩ = some (.slice (some ⟨G, 0, none⟩) N c') ∧ w7.cell? ⟨w.heap.size + 1, 2, none⟩ = some (.slice (some ⟨g, off, none⟩) N cp) ∧ w7.cell? ⟨g, off + U * 4, none⟩ = some (.int .i64 sx) ∧ w7.cell? ⟨g, off + U * 4 + 1, none⟩ = some (.int .i64 kx) ∧ w7.cell? ⟨g, off + U * 4 + 2, none⟩ = some (.int .i64 ax) ∧ w7.cell? ⟨g, off + U * 4 + 3, none⟩ = some (.int .i64 tx) ∧ Kp w w7 := ⟨k7.cell hHeld.1, k7.cell hHeld.2.1, k7.cell hHeld.2.2.1, k7.cell hHeld.2.2.2.1, k7.cell hHeld.2.2.2.2.1, k7.cell hHeld.2.2.2.2.2.1, hHeld.2.2.2.2.2.2.trans k7⟩
  have hz5 := cell_lt m5.1.1
  have K7 := hS7.2.2.2.2.2.2
  have O7 := Lib.hid (O5.out.keep k7)
  have l7 := livS_keep k7 l5
  have hz6 := k7.size
  have r7 := O7.out.row HN.out
  have f0 := World.ownsRow.frozenAt r7 (U * 4)
  have f1 := World.ownsRow.frozenAt r7 (U * 4 + 1)
  have f2 := World.ownsRow.frozenAt r7 (U * 4 + 2)
  have f3 := World.ownsRow.frozenAt r7 (U * 4 + 3)
  obtain ⟨b0, b1, b2, b3⟩ := O7.out.cells HX.out
  simp only at b0 b1 b2 b3
  have m7 := livS_keep k7 m5
  have hne1 : G ≠ w4.heap.size := by omega
  have hne2 : G ≠ w.heap.size + 1 := by omega
  have hne3 : G ≠ g := by omega
  have hne4 : G ≠ w.heap.size + 1 + 1 := by omega
  have hz7 := cell_lt l7.1.1
  have o8 := O7.out.unit (s := qs) (k := qk) (a := qa) (t := qt) HX.out
  have O8 := Lib.hid o8
  clear k7 r7 m5 l5 o8
  go_wp2_with fail
  refine hK.out _ _ ?_ (fun hHeld => ?_)
  · (try dsimp only); (assumption)
  clear hK K
  try simp only [Act.put, List.setIfInBounds_toArray, List.set_cons_zero, List.set_cons_succ]
  refine wpAnyH_take (i := 10) (oi := ⟨some 40, _, _, _, _, _⟩) (v := ?_) rfl (by kernel_rfl) (by kernel_rfl) (by kernel_rfl) (fun _ _ _ h => h) (Or.inl ⟨by rfl, ?_⟩) (by assumption) ?_
  rotate_left
  · intro w hSw; (try dsimp only at hSw); go_simp; (all_goals with_reducible rfl)
  simp only [Act.put, List.setIfInBounds_toArray, List.set_cons_zero, List.set_cons_succ]
  refine wpAnyH_ready (rs := [11]) (by kernel_rfl) (by simp) ?_
  refine (AllReadyH.cons (o := ⟨none, _, _, _, _, _⟩) rfl (fun K hK => ?_) AllReadyH.nil)
  go_simp
  go_wp2_with fail
  refine hK.out _ _ ?_ (fun hHeld => ?_)
  · (try dsimp only); (first | assumption | exact ⟨by simp [go_sem, *], by simp [go_sem, *], by simp [go_sem, *], by simp [go_sem, *], by simp [go_sem, *], by simp [go_sem, *], (((K7.setCell (by simp; omega) _).setCell (by simp; omega) _).setCell (by simp; omega) _).setCell (by simp; omega) _⟩)
  clear hK K
  try simp only [Act.put, List.setIfInBounds_toArray, List.set_cons_zero, List.set_cons_succ]
  refine wpAnyH_done (by kernel_rfl) ?_ _
  go_wp2_with fail
  refine bodyPost_ret (v := .tuple #[sv T Z (.slice (some ⟨G, 0, none⟩) N c'), .bool true]) (by simp [results, Tryz.results27, go_sem, *]) rfl ⟨_, rfl, ?_, ?_⟩
  · have n2 := O8.out.not (g := w.heap.size + 1 + 1) (by omega)
    exact (((O8.out.far n2 _).far n2 _).far n2 _).base (by omega)
  · exact ((((((K7.setCell (by simp; omega) _).setCell (by simp; omega) _).setCell (by simp; omega) _).setCell (by simp; omega) _).setCell (by simp <;> omega) _).setCell (by simp <;> omega) _).setCell (by simp <;> omega) _

end Go.Proofs.YtiaahpcfciomlaaGreatDoor
