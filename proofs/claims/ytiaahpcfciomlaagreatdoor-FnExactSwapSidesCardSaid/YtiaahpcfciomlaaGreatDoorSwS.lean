/-
  SwapSides of both sides: a new state. Nothing that was there is changed. The named variables hold what the program's text lays.
-/
import Derived.Test.YtiaahpcfciomlaaGreatDoorPlU
import Derived.StillTailTactics
namespace Go.Proofs.YtiaahpcfciomlaaGreatDoor
open Go.RowKit

/-- The unit of the other side. -/
def swU (x : Uni) : Uni := ⟨1 - x.s, x.k, x.a, x.t⟩
def swL (us : List Uni) : List Uni := us.map swU
/-- The list behind q rounds. -/
def swP (us : List Uni) (q : Nat) : List Uni := (us.take q).map swU ++ us.drop q
theorem swP_all (us : List Uni) : swP us us.length = swL us := by simp [swP, swL]
theorem swL_len (us : List Uni) : (swL us).length = us.length := by simp [swL]
theorem swP_len (us : List Uni) (q : Nat) : (swP us q).length = us.length := by
  simp [swP]
  omega
theorem swP_at {us : List Uni} {q : Nat} {x : Uni} (hx : us[q]? = some x) : (swP us q)[q]? = some x := by
  have hq := (List.getElem?_eq_some_iff.1 hx).1
  have e : ((us.take q).map swU).length = q := by simp; omega
  rw [swP, List.getElem?_append_right (by omega), e, Nat.sub_self, List.getElem?_drop, Nat.add_zero]
  exact hx
theorem swP_set {us : List Uni} {q : Nat} {x : Uni} (hx : us[q]? = some x) : (swP us q).set q ⟨1 - x.s, x.k, x.a, x.t⟩ = swP us (q + 1) := by
  obtain ⟨hq, h2⟩ := List.getElem?_eq_some_iff.1 hx
  have e : ((us.take q).map swU).length = q := by simp; omega
  have hd : us.drop q = x :: us.drop (q + 1) := by
    rw [← h2]
    exact List.drop_eq_getElem_cons hq
  unfold swP
  rw [List.set_append_right _ _ (by omega), e, Nat.sub_self, hd, List.set_cons_zero, List.take_add_one, hx]
  simp [swU]
theorem cellsU_side : ∀ (us : List Uni) (n : Nat) (x : Uni) (i : Int), us[n]? = some x → (cellsU us).set (n * 4) (.int .i64 i) = cellsU (us.set n ⟨i, x.k, x.a, x.t⟩)
  | [], _, _, _, h => by simp at h
  | y :: us, 0, x, i, h => by
    simp only [List.getElem?_cons_zero, Option.some.injEq] at h
    subst h
    rfl
  | y :: us, n + 1, x, i, h => by
    have := cellsU_side us n x i (by simpa using h)
    have e1 : (n + 1) * 4 = n * 4 + 1 + 1 + 1 + 1 := by omega
    rw [e1, List.set_cons_succ]
    simp only [cellsU, List.set_cons_succ, this]
theorem OwnU.swap {w : World} {base G N c q : Nat} {us : List Uni} {x : Uni} (h : OwnU w base (.slice (some ⟨G, 0, none⟩) N c) (swP us q)) (hx : us[q]? = some x) : OwnU (w.setCell ⟨G, q * 4, none⟩ (.int .i64 (1 - x.s))) base (.slice (some ⟨G, 0, none⟩) N c) (swP us (q + 1)) := by
  have hN : N = (swP us q).length := by
    obtain ⟨A, c', e⟩ := h.slice
    simp only [Value.slice.injEq] at e
    exact e.2.1
  subst hN
  have h2 := (World.ownsRow.stored h (q * 4) (.int .i64 (1 - x.s))).1
  rw [cellsU_side (swP us q) q x _ (swP_at hx), swP_set hx] at h2
  unfold OwnU
  simp only [swP_len] at h2 ⊢
  exact h2
theorem OwnU.cell0 {w : World} {base G N c q : Nat} {us : List Uni} {x : Uni} (h : OwnU w base (.slice (some ⟨G, 0, none⟩) N c) (swP us q)) (hx : us[q]? = some x) : w.cell? ⟨G, q * 4, none⟩ = some (.int .i64 x.s) := by
  obtain ⟨A2, c2, e2, h2⟩ := h.rd
  simp only [Value.slice.injEq] at e2
  obtain ⟨e2, _, _⟩ := e2
  obtain ⟨g2, o2, e3, h3⟩ := h2 (by rw [swP_len]; have := (List.getElem?_eq_some_iff.1 hx).1; omega)
  rw [← e2] at e3
  simp only [Option.some.injEq, Addr.mk.injEq] at e3
  obtain ⟨rfl, rfl, _⟩ := e3
  have h4 := (h3 q _ (swP_at hx)).1
  simp only [Nat.zero_add] at h4
  exact h4
theorem UniI.swap {us : List Uni} (h : ∀ x ∈ us, UniI x) (hs : ∀ x ∈ us, x.s = 0 ∨ x.s = 1) : ∀ x ∈ swL us, UniI x := by
  intro x hx
  obtain ⟨y, hy, rfl⟩ := List.mem_map.1 hx
  obtain ⟨_, b, c, d⟩ := h y hy
  refine ⟨?_, b, c, d⟩
  rcases hs y hy with e | e
  · simp only [swU, e]
    unfold isI64
    omega
  · simp only [swU, e]
    unfold isI64
    omega

set_option maxRecDepth 100000 in
set_option maxHeartbeats 4000000 in
theorem specSwapSides_any (At Ak : Option Addr) (nt nk ct ck : Nat) (l : List Ter) (m : List Knd) (a b c d e W H : Int) (x r y : Value) (lt lr ld : List Int) (T Z : Int) (g off N cp : Nat) (us : List Uni) (w : World) (hB : BrdAt w At Ak nt nk l m x r y lt lr ld) (hS : StaAt w (.slice (some ⟨g, off, none⟩) N cp) us) (hN : us.length = N) :
    Calls Tryz.prog 28 #[bv (.slice At nt ct) (.slice Ak nk ck) a b c d e W H x r y, sv T Z (.slice (some ⟨g, off, none⟩) N cp)] w (StPost (brdOk ⟨l, m, a, b, c, d, e⟩ W H lt lr ld && staOk ⟨l, m, a, b, c, d, e⟩ W H lt T Z us) T Z (swL us) w) := by
  have KA : Kp w (((w.alloc (.cells #[.slice At nt ct, .slice Ak nk ck, .int .i64 a, .int .i64 b, .int .i64 c, .int .i64 d, .int .i64 e, .int .i64 W, .int .i64 H, x, r, y] 44)).alloc (.cells #[.int .i64 T, .int .i64 Z, .slice (some ⟨g, off, none⟩) N cp] 48)).alloc (.cells #[.int .i64 0, .int .i64 0, .slice none 0 0] 48)) := (((Kp.refl w).alloc _).alloc _).alloc _
  have s0 : (((w.alloc (.cells #[.slice At nt ct, .slice Ak nk ck, .int .i64 a, .int .i64 b, .int .i64 c, .int .i64 d, .int .i64 e, .int .i64 W, .int .i64 H, x, r, y] 44)).alloc (.cells #[.int .i64 T, .int .i64 Z, .slice (some ⟨g, off, none⟩) N cp] 48)).alloc (.cells #[.int .i64 0, .int .i64 0, .slice none 0 0] 48)).cell? ⟨w.heap.size, 0, none⟩ = some (.slice At nt ct) ∧ (((w.alloc (.cells #[.slice At nt ct, .slice Ak nk ck, .int .i64 a, .int .i64 b, .int .i64 c, .int .i64 d, .int .i64 e, .int .i64 W, .int .i64 H, x, r, y] 44)).alloc (.cells #[.int .i64 T, .int .i64 Z, .slice (some ⟨g, off, none⟩) N cp] 48)).alloc (.cells #[.int .i64 0, .int .i64 0, .slice none 0 0] 48)).cell? ⟨w.heap.size, 1, none⟩ = some (.slice Ak nk ck) ∧ (((w.alloc (.cells #[.slice At nt ct, .slice Ak nk ck, .int .i64 a, .int .i64 b, .int .i64 c, .int .i64 d, .int .i64 e, .int .i64 W, .int .i64 H, x, r, y] 44)).alloc (.cells #[.int .i64 T, .int .i64 Z, .slice (some ⟨g, off, none⟩) N cp] 48)).alloc (.cells #[.int .i64 0, .int .i64 0, .slice none 0 0] 48)).cell? ⟨w.heap.size, 2, none⟩ = some (.int .i64 a) ∧ (((w.alloc (.cells #[.slice At nt ct, .slice Ak nk ck, .int .i64 a, .int .i64 b, .int .i64 c, .int .i64 d, .int .i64 e, .int .i64 W, .int .i64 H, x, r, y] 44)).alloc (.cells #[.int .i64 T, .int .i64 Z, .slice (some ⟨g, off, none⟩) N cp] 48)).alloc (.cells #[.int .i64 0, .int .i64 0, .slice none 0 0] 48)).cell? ⟨w.heap.size, 3, none⟩ = some (.int .i64 b) ∧ (((w.alloc (.cells #[.slice At nt ct, .slice Ak nk ck, .int .i64 a, .int .i64 b, .int .i64 c, .int .i64 d, .int .i64 e, .int .i64 W, .int .i64 H, x, r, y] 44)).alloc (.cells #[.int .i64 T, .int .i64 Z, .slice (some ⟨g, off, none⟩) N cp] 48)).alloc (.cells #[.int .i64 0, .int .i64 0, .slice none 0 0] 48)).cell? ⟨w.heap.size, 4, none⟩ = some (.int .i64 c) ∧ (((w.alloc (.cells #[.slice At nt ct, .slice Ak nk ck, .int .i64 a, .int .i64 b, .int .i64 c, .int .i64 d, .int .i64 e, .int .i64 W, .int .i64 H, x, r, y] 44)).alloc (.cells #[.int .i64 T, .int .i64 Z, .slice (some ⟨g, off, none⟩) N cp] 48)).alloc (.cells #[.int .i64 0, .int .i64 0, .slice none 0 0] 48)).cell? ⟨w.heap.size, 5, none⟩ = some (.int .i64 d) ∧ (((w.alloc (.cells #[.slice At nt ct, .slice Ak nk ck, .int .i64 a, .int .i64 b, .int .i64 c, .int .i64 d, .int .i64 e, .int .i64 W, .int .i64 H, x, r, y] 44)).alloc (.cells #[.int .i64 T, .int .i64 Z, .slice (some ⟨g, off, none⟩) N cp] 48)).alloc (.cells #[.int .i64 0, .int .i64 0, .slice none 0 0] 48)).cell? ⟨w.heap.size, 6, none⟩ = some (.int .i64 e) ∧ (((w.alloc (.cells #[.slice At nt ct, .slice Ak nk ck, .int .i64 a, .int .i64 b, .int .i64 c, .int .i64 d, .int .i64 e, .int .i64 W, .int .i64 H, x, r, y] 44)).alloc (.cells #[.int .i64 T, .int .i64 Z, .slice (some ⟨g, off, none⟩) N cp] 48)).alloc (.cells #[.int .i64 0, .int .i64 0, .slice none 0 0] 48)).cell? ⟨w.heap.size, 7, none⟩ = some (.int .i64 W) ∧ (((w.alloc (.cells #[.slice At nt ct, .slice Ak nk ck, .int .i64 a, .int .i64 b, .int .i64 c, .int .i64 d, .int .i64 e, .int .i64 W, .int .i64 H, x, r, y] 44)).alloc (.cells #[.int .i64 T, .int .i64 Z, .slice (some ⟨g, off, none⟩) N cp] 48)).alloc (.cells #[.int .i64 0, .int .i64 0, .slice none 0 0] 48)).cell? ⟨w.heap.size, 8, none⟩ = some (.int .i64 H) ∧ (((w.alloc (.cells #[.slice At nt ct, .slice Ak nk ck, .int .i64 a, .int .i64 b, .int .i64 c, .int .i64 d, .int .i64 e, .int .i64 W, .int .i64 H, x, r, y] 44)).alloc (.cells #[.int .i64 T, .int .i64 Z, .slice (some ⟨g, off, none⟩) N cp] 48)).alloc (.cells #[.int .i64 0, .int .i64 0, .slice none 0 0] 48)).cell? ⟨w.heap.size, 9, none⟩ = some (x) ∧ (((w.alloc (.cells #[.slice At nt ct, .slice Ak nk ck, .int .i64 a, .int .i64 b, .int .i64 c, .int .i64 d, .int .i64 e, .int .i64 W, .int .i64 H, x, r, y] 44)).alloc (.cells #[.int .i64 T, .int .i64 Z, .slice (some ⟨g, off, none⟩) N cp] 48)).alloc (.cells #[.int .i64 0, .int .i64 0, .slice none 0 0] 48)).cell? ⟨w.heap.size, 10, none⟩ = some (r) ∧ (((w.alloc (.cells #[.slice At nt ct, .slice Ak nk ck, .int .i64 a, .int .i64 b, .int .i64 c, .int .i64 d, .int .i64 e, .int .i64 W, .int .i64 H, x, r, y] 44)).alloc (.cells #[.int .i64 T, .int .i64 Z, .slice (some ⟨g, off, none⟩) N cp] 48)).alloc (.cells #[.int .i64 0, .int .i64 0, .slice none 0 0] 48)).cell? ⟨w.heap.size, 11, none⟩ = some (y) ∧ (((w.alloc (.cells #[.slice At nt ct, .slice Ak nk ck, .int .i64 a, .int .i64 b, .int .i64 c, .int .i64 d, .int .i64 e, .int .i64 W, .int .i64 H, x, r, y] 44)).alloc (.cells #[.int .i64 T, .int .i64 Z, .slice (some ⟨g, off, none⟩) N cp] 48)).alloc (.cells #[.int .i64 0, .int .i64 0, .slice none 0 0] 48)).cell? ⟨w.heap.size + 1, 0, none⟩ = some (.int .i64 T) ∧ (((w.alloc (.cells #[.slice At nt ct, .slice Ak nk ck, .int .i64 a, .int .i64 b, .int .i64 c, .int .i64 d, .int .i64 e, .int .i64 W, .int .i64 H, x, r, y] 44)).alloc (.cells #[.int .i64 T, .int .i64 Z, .slice (some ⟨g, off, none⟩) N cp] 48)).alloc (.cells #[.int .i64 0, .int .i64 0, .slice none 0 0] 48)).cell? ⟨w.heap.size + 1, 1, none⟩ = some (.int .i64 Z) ∧ (((w.alloc (.cells #[.slice At nt ct, .slice Ak nk ck, .int .i64 a, .int .i64 b, .int .i64 c, .int .i64 d, .int .i64 e, .int .i64 W, .int .i64 H, x, r, y] 44)).alloc (.cells #[.int .i64 T, .int .i64 Z, .slice (some ⟨g, off, none⟩) N cp] 48)).alloc (.cells #[.int .i64 0, .int .i64 0, .slice none 0 0] 48)).cell? ⟨w.heap.size + 1, 2, none⟩ = some (.slice (some ⟨g, off, none⟩) N cp) ∧ Kp w (((w.alloc (.cells #[.slice At nt ct, .slice Ak nk ck, .int .i64 a, .int .i64 b, .int .i64 c, .int .i64 d, .int .i64 e, .int .i64 W, .int .i64 H, x, r, y] 44)).alloc (.cells #[.int .i64 T, .int .i64 Z, .slice (some ⟨g, off, none⟩) N cp] 48)).alloc (.cells #[.int .i64 0, .int .i64 0, .slice none 0 0] 48)) := ⟨by simp [go_sem], by simp [go_sem], by simp [go_sem], by simp [go_sem], by simp [go_sem], by simp [go_sem], by simp [go_sem], by simp [go_sem], by simp [go_sem], by simp [go_sem], by simp [go_sem], by simp [go_sem], by simp [go_sem], by simp [go_sem], by simp [go_sem], KA⟩
  have l0 : LivS (((w.alloc (.cells #[.slice At nt ct, .slice Ak nk ck, .int .i64 a, .int .i64 b, .int .i64 c, .int .i64 d, .int .i64 e, .int .i64 W, .int .i64 H, x, r, y] 44)).alloc (.cells #[.int .i64 T, .int .i64 Z, .slice (some ⟨g, off, none⟩) N cp] 48)).alloc (.cells #[.int .i64 0, .int .i64 0, .slice none 0 0] 48)) (w.heap.size + 1 + 1) (.int .i64 0) (.int .i64 0) (.slice none 0 0) := ⟨by simp [go_sem], by simp [go_sem], by simp [go_sem]⟩
  have C1 := Lib.hid (sGood_any At Ak nt nk ct ck l m a b c d e W H x r y lt lr ld T Z (.slice (some ⟨g, off, none⟩) N cp) us _ (hB.keep KA) (hS.keep KA))
  have HS := Lib.hid hS
  have hn6 := hS.b
  rw [hN] at hn6
  cases ho : brdOk ⟨l, m, a, b, c, d, e⟩ W H lt lr ld && staOk ⟨l, m, a, b, c, d, e⟩ W H lt T Z us
  · rw [ho] at C1
    clear hB hS ho
    go_enter Tryz.func28, Tryz.ntmps28
    go_wp2_with fail
    refine C1.out.mono ?_
    rintro e1 w1 ⟨rfl, k1⟩
    have l1 := livS_keep k1 l0
    have K1 := KA.trans k1
    clear s0 l0
    go_wp2_with fail
    exact bodyPost_ret (v := .tuple #[sv 0 0 (.slice none 0 0), .bool false]) (by simp [results, Tryz.results28, go_sem, *]) rfl (StPost.no (((K1.setCell (by simp <;> omega) _).setCell (by simp <;> omega) _).setCell (by simp <;> omega) _))
  rw [ho] at C1
  have HN := Lib.hid hN
  have HI1 : Hid (∀ (q : Nat) (x : Uni), us[q]? = some x → x.s = 0 ∨ x.s = 1) := Lib.hid fun q x hq => by
    simp only [Bool.and_eq_true] at ho
    exact (uniOk_side ((staOk_parts ho.2).2.2.1 x (List.mem_of_getElem? hq))).1
  have CC : Hid (∀ w, RdU w (.slice (some ⟨g, off, none⟩) N cp) us → Calls Tryz.prog 50 #[sv T Z (.slice (some ⟨g, off, none⟩) N cp)] w fun e w' => ∃ A' c', e = .returned (sv T Z (.slice A' N c')) ∧ OwnU w' w.heap.size (.slice A' N c') us ∧ Kp w w') := Lib.hid fun w h => sOwn_any T Z g off N cp us w h hN hn6
  have HL : Hid (swP us N = swL us) := Lib.hid (by subst hN; exact swP_all us)
  have H0 : Hid (swP us 0 = us) := Lib.hid (by simp [swP])
  have HA : Hid (∀ i x, us[i]? = some x → UniAt w g (off + i * 4) x) := Lib.hid fun i x hi => by
    obtain ⟨A2, c2, e2, h2⟩ := hS.rd
    simp only [Value.slice.injEq] at e2
    obtain ⟨e2, _, _⟩ := e2
    obtain ⟨g2, o2, e3, h3⟩ := h2 (by have := (List.getElem?_eq_some_iff.1 hi).1; omega)
    rw [← e2] at e3
    simp only [Option.some.injEq, Addr.mk.injEq] at e3
    obtain ⟨rfl, rfl, _⟩ := e3
    exact h3 i x hi
  clear hB hS ho hN
  go_enter Tryz.func28, Tryz.ntmps28
  go_wp2_with fail
  refine C1.out.mono ?_
  rintro e1 w1 ⟨rfl, k1⟩
  have s1 := keepp15 k1 s0
  have l1 := livS_keep k1 l0
  clear s0 l0 k1 KA
  go_wp2_with fail
  refine (CC.out _ (HS.out.keep s1.2.2.2.2.2.2.2.2.2.2.2.2.2.2.2).rd).mono ?_
  rintro e3 w3 ⟨A', c', rfl, o3, k3⟩
  have s3 := keepp15 k3 s1
  have K3 := s3.2.2.2.2.2.2.2.2.2.2.2.2.2.2.2
  have l3 := livS_keep k3 l1
  have hz1 := cell_lt l1.1.1
  have hz3 := cell_lt l3.1.1
  have HG3 : Hid (∀ G, A' = some ⟨G, 0, none⟩ → G < w3.heap.size) := Lib.hid fun G hG => by
    subst hG
    exact (World.ownsRow.lt o3 G rfl).2
  have kg : Kp w3 (w3.alloc (.cells #[.int .i64 T, .int .i64 Z, .slice A' N c'] 48)) := (Kp.refl w3).alloc _
  have O4 := Lib.hid (o3.keep kg)
  have l4 := livS_keep kg l3
  have K4 := K3.trans kg
  have m4 : LivS (w3.alloc (.cells #[.int .i64 T, .int .i64 Z, .slice A' N c'] 48)) w3.heap.size (.int .i64 T) (.int .i64 Z) (.slice A' N c') := ⟨by simp [go_sem], by simp [go_sem], by simp [go_sem]⟩
  have c4 := kg.cell s3.2.2.2.2.2.2.2.2.2.2.2.2.2.2.1
  clear o3 k3 kg s1 l1
  go_wp2_with fail
  go_loopw [18] (fun iq wx => ∃ q : Nat, q ≤ N ∧ iq = .int .i64 q ∧ OwnU wx w1.heap.size (.slice A' N c') (swP us q) ∧ LivS wx w3.heap.size (.int .i64 T) (.int .i64 Z) (.slice A' N c') ∧ LivS wx (w.heap.size + 1 + 1) (.int .i64 0) (.int .i64 0) (.slice none 0 0) ∧ Kp w wx) (fun iq _ => N - (intOf iq).toNat)
  case atStart => exact ⟨0, by omega, rfl, by rw [H0.out]; exact O4.out, m4, l4, K4⟩
  case round =>
    obtain ⟨q, hq, rfl, ho, mr, lr, kr⟩ := hrel
    clear l3 l4 m4 s3 K3 K4 O4 c4
    by_cases hlt : q < N
    · have hlt' : (q : Int) < N := by omega
      have hqO : ((q : Int)).toNat = q := by omega
      obtain ⟨sx, kx, ax, tx, hx⟩ := uni_getT HN.out hlt
      have hsx : sx = 0 ∨ sx = 1 := HI1.out q _ hx
      obtain ⟨G, rfl, hG, hNN⟩ := ho.block_at (by rw [swP_len]; have := HN.out; omega)
      clear hNN
      have hG3 := HG3.out G rfl
      have HX := Lib.hid hx
      have es : IntKind.i64.wrap (1 - sx) = 1 - sx := IntWalk.i64_in _ (by omega)
      have b0 : wr.cell? ⟨G, q * 4, none⟩ = some (.int .i64 sx) := ho.cell0 hx
      have hzr := cell_lt mr.1.1
      clear hx
      go_wp2_with fail
      go_still_tail 12, (by kernel_rfl)
      change wpList _ _ _ _ _ wr.drew
      have k5 : Kp wr wr.drew := (Kp.refl wr).drew
      have o5 := ho.keep k5
      have m5 := livS_keep k5 mr
      have l5 := livS_keep k5 lr
      have K5 := kr.trans k5
      have b5 := k5.cell b0
      have f5 := World.ownsRow.frozenAt (o5.row (by rw [swP_len]; exact HN.out)) (q * 4)
      have O6 := Lib.hid (o5.swap HX.out)
      have hne1 : G ≠ w.heap.size + 1 + 1 := by omega
      have hne2 : G ≠ w3.heap.size := by omega
      have hz5 := cell_lt m5.1.1
      clear ho mr lr kr b0 k5
      generalize wr.drew = w5 at *
      clear o5
      go_wp2_with fail
      go_roundw
      case rel => exact ⟨q + 1, by omega, by go_num, O6.out, ⟨by simp [go_sem, *], by simp [go_sem, *], by simp [go_sem, *]⟩, ⟨by simp [go_sem, *], by simp [go_sem, *], by simp [go_sem, *]⟩, K5.setCell (by simp; omega) _⟩
      case measure => simp [intOf]; omega
    · obtain rfl : q = N := by omega
      rw [HL.out] at ho
      have HO := Lib.hid ho
      have hzr := cell_lt lr.1.1
      clear ho
      go_wp2_with fail
      refine bodyPost_ret (v := .tuple #[sv T Z (.slice A' q c'), .bool true]) (by simp [results, Tryz.results28, go_sem, *]) rfl ⟨_, rfl, ?_, ?_⟩
      · have n2 := HO.out.not (g := w.heap.size + 1 + 1) (by omega)
        exact (((HO.out.far n2 _).far n2 _).far n2 _).base (by omega)
      · exact ((kr.setCell (by simp <;> omega) _).setCell (by simp <;> omega) _).setCell (by simp <;> omega) _

set_option maxRecDepth 100000 in
set_option maxHeartbeats 4000000 in
theorem swapSidesP_any (At Ak : Option Addr) (nt nk ct ck : Nat) (l : List Ter) (m : List Knd) (a b c d e W H : Int) (x r y : Value) (lt lr ld : List Int) (T Z : Int) (g off N cp : Nat) (us : List Uni) (w : World) (hs : Spans w) (ht : Tab w) (hu : SpU w) (hB : BrdAt w At Ak nt nk l m x r y lt lr ld) (hS : StaAt w (.slice (some ⟨g, off, none⟩) N cp) us) (hN : us.length = N) :
    Calls Tryz.prog 29 #[bv (.slice At nt ct) (.slice Ak nk ck) a b c d e W H x r y, sv T Z (.slice (some ⟨g, off, none⟩) N cp)] w (StPost (brdOk ⟨l, m, a, b, c, d, e⟩ W H lt lr ld && staOk ⟨l, m, a, b, c, d, e⟩ W H lt T Z us) T Z (swL us) w) := by
  have KA : Kp w (((w.alloc (.cells #[.slice At nt ct, .slice Ak nk ck, .int .i64 a, .int .i64 b, .int .i64 c, .int .i64 d, .int .i64 e, .int .i64 W, .int .i64 H, x, r, y] 44)).alloc (.cells #[.int .i64 T, .int .i64 Z, .slice (some ⟨g, off, none⟩) N cp] 48)).alloc (.cells #[.int .i64 0, .int .i64 0, .slice none 0 0] 48)) := (((Kp.refl w).alloc _).alloc _).alloc _
  have s0 : (((w.alloc (.cells #[.slice At nt ct, .slice Ak nk ck, .int .i64 a, .int .i64 b, .int .i64 c, .int .i64 d, .int .i64 e, .int .i64 W, .int .i64 H, x, r, y] 44)).alloc (.cells #[.int .i64 T, .int .i64 Z, .slice (some ⟨g, off, none⟩) N cp] 48)).alloc (.cells #[.int .i64 0, .int .i64 0, .slice none 0 0] 48)).cell? ⟨w.heap.size, 0, none⟩ = some (.slice At nt ct) ∧ (((w.alloc (.cells #[.slice At nt ct, .slice Ak nk ck, .int .i64 a, .int .i64 b, .int .i64 c, .int .i64 d, .int .i64 e, .int .i64 W, .int .i64 H, x, r, y] 44)).alloc (.cells #[.int .i64 T, .int .i64 Z, .slice (some ⟨g, off, none⟩) N cp] 48)).alloc (.cells #[.int .i64 0, .int .i64 0, .slice none 0 0] 48)).cell? ⟨w.heap.size, 1, none⟩ = some (.slice Ak nk ck) ∧ (((w.alloc (.cells #[.slice At nt ct, .slice Ak nk ck, .int .i64 a, .int .i64 b, .int .i64 c, .int .i64 d, .int .i64 e, .int .i64 W, .int .i64 H, x, r, y] 44)).alloc (.cells #[.int .i64 T, .int .i64 Z, .slice (some ⟨g, off, none⟩) N cp] 48)).alloc (.cells #[.int .i64 0, .int .i64 0, .slice none 0 0] 48)).cell? ⟨w.heap.size, 2, none⟩ = some (.int .i64 a) ∧ (((w.alloc (.cells #[.slice At nt ct, .slice Ak nk ck, .int .i64 a, .int .i64 b, .int .i64 c, .int .i64 d, .int .i64 e, .int .i64 W, .int .i64 H, x, r, y] 44)).alloc (.cells #[.int .i64 T, .int .i64 Z, .slice (some ⟨g, off, none⟩) N cp] 48)).alloc (.cells #[.int .i64 0, .int .i64 0, .slice none 0 0] 48)).cell? ⟨w.heap.size, 3, none⟩ = some (.int .i64 b) ∧ (((w.alloc (.cells #[.slice At nt ct, .slice Ak nk ck, .int .i64 a, .int .i64 b, .int .i64 c, .int .i64 d, .int .i64 e, .int .i64 W, .int .i64 H, x, r, y] 44)).alloc (.cells #[.int .i64 T, .int .i64 Z, .slice (some ⟨g, off, none⟩) N cp] 48)).alloc (.cells #[.int .i64 0, .int .i64 0, .slice none 0 0] 48)).cell? ⟨w.heap.size, 4, none⟩ = some (.int .i64 c) ∧ (((w.alloc (.cells #[.slice At nt ct, .slice Ak nk ck, .int .i64 a, .int .i64 b, .int .i64 c, .int .i64 d, .int .i64 e, .int .i64 W, .int .i64 H, x, r, y] 44)).alloc (.cells #[.int .i64 T, .int .i64 Z, .slice (some ⟨g, off, none⟩) N cp] 48)).alloc (.cells #[.int .i64 0, .int .i64 0, .slice none 0 0] 48)).cell? ⟨w.heap.size, 5, none⟩ = some (.int .i64 d) ∧ (((w.alloc (.cells #[.slice At nt ct, .slice Ak nk ck, .int .i64 a, .int .i64 b, .int .i64 c, .int .i64 d, .int .i64 e, .int .i64 W, .int .i64 H, x, r, y] 44)).alloc (.cells #[.int .i64 T, .int .i64 Z, .slice (some ⟨g, off, none⟩) N cp] 48)).alloc (.cells #[.int .i64 0, .int .i64 0, .slice none 0 0] 48)).cell? ⟨w.heap.size, 6, none⟩ = some (.int .i64 e) ∧ (((w.alloc (.cells #[.slice At nt ct, .slice Ak nk ck, .int .i64 a, .int .i64 b, .int .i64 c, .int .i64 d, .int .i64 e, .int .i64 W, .int .i64 H, x, r, y] 44)).alloc (.cells #[.int .i64 T, .int .i64 Z, .slice (some ⟨g, off, none⟩) N cp] 48)).alloc (.cells #[.int .i64 0, .int .i64 0, .slice none 0 0] 48)).cell? ⟨w.heap.size, 7, none⟩ = some (.int .i64 W) ∧ (((w.alloc (.cells #[.slice At nt ct, .slice Ak nk ck, .int .i64 a, .int .i64 b, .int .i64 c, .int .i64 d, .int .i64 e, .int .i64 W, .int .i64 H, x, r, y] 44)).alloc (.cells #[.int .i64 T, .int .i64 Z, .slice (some ⟨g, off, none⟩) N cp] 48)).alloc (.cells #[.int .i64 0, .int .i64 0, .slice none 0 0] 48)).cell? ⟨w.heap.size, 8, none⟩ = some (.int .i64 H) ∧ (((w.alloc (.cells #[.slice At nt ct, .slice Ak nk ck, .int .i64 a, .int .i64 b, .int .i64 c, .int .i64 d, .int .i64 e, .int .i64 W, .int .i64 H, x, r, y] 44)).alloc (.cells #[.int .i64 T, .int .i64 Z, .slice (some ⟨g, off, none⟩) N cp] 48)).alloc (.cells #[.int .i64 0, .int .i64 0, .slice none 0 0] 48)).cell? ⟨w.heap.size, 9, none⟩ = some (x) ∧ (((w.alloc (.cells #[.slice At nt ct, .slice Ak nk ck, .int .i64 a, .int .i64 b, .int .i64 c, .int .i64 d, .int .i64 e, .int .i64 W, .int .i64 H, x, r, y] 44)).alloc (.cells #[.int .i64 T, .int .i64 Z, .slice (some ⟨g, off, none⟩) N cp] 48)).alloc (.cells #[.int .i64 0, .int .i64 0, .slice none 0 0] 48)).cell? ⟨w.heap.size, 10, none⟩ = some (r) ∧ (((w.alloc (.cells #[.slice At nt ct, .slice Ak nk ck, .int .i64 a, .int .i64 b, .int .i64 c, .int .i64 d, .int .i64 e, .int .i64 W, .int .i64 H, x, r, y] 44)).alloc (.cells #[.int .i64 T, .int .i64 Z, .slice (some ⟨g, off, none⟩) N cp] 48)).alloc (.cells #[.int .i64 0, .int .i64 0, .slice none 0 0] 48)).cell? ⟨w.heap.size, 11, none⟩ = some (y) ∧ (((w.alloc (.cells #[.slice At nt ct, .slice Ak nk ck, .int .i64 a, .int .i64 b, .int .i64 c, .int .i64 d, .int .i64 e, .int .i64 W, .int .i64 H, x, r, y] 44)).alloc (.cells #[.int .i64 T, .int .i64 Z, .slice (some ⟨g, off, none⟩) N cp] 48)).alloc (.cells #[.int .i64 0, .int .i64 0, .slice none 0 0] 48)).cell? ⟨w.heap.size + 1, 0, none⟩ = some (.int .i64 T) ∧ (((w.alloc (.cells #[.slice At nt ct, .slice Ak nk ck, .int .i64 a, .int .i64 b, .int .i64 c, .int .i64 d, .int .i64 e, .int .i64 W, .int .i64 H, x, r, y] 44)).alloc (.cells #[.int .i64 T, .int .i64 Z, .slice (some ⟨g, off, none⟩) N cp] 48)).alloc (.cells #[.int .i64 0, .int .i64 0, .slice none 0 0] 48)).cell? ⟨w.heap.size + 1, 1, none⟩ = some (.int .i64 Z) ∧ (((w.alloc (.cells #[.slice At nt ct, .slice Ak nk ck, .int .i64 a, .int .i64 b, .int .i64 c, .int .i64 d, .int .i64 e, .int .i64 W, .int .i64 H, x, r, y] 44)).alloc (.cells #[.int .i64 T, .int .i64 Z, .slice (some ⟨g, off, none⟩) N cp] 48)).alloc (.cells #[.int .i64 0, .int .i64 0, .slice none 0 0] 48)).cell? ⟨w.heap.size + 1, 2, none⟩ = some (.slice (some ⟨g, off, none⟩) N cp) ∧ Kp w (((w.alloc (.cells #[.slice At nt ct, .slice Ak nk ck, .int .i64 a, .int .i64 b, .int .i64 c, .int .i64 d, .int .i64 e, .int .i64 W, .int .i64 H, x, r, y] 44)).alloc (.cells #[.int .i64 T, .int .i64 Z, .slice (some ⟨g, off, none⟩) N cp] 48)).alloc (.cells #[.int .i64 0, .int .i64 0, .slice none 0 0] 48)) := ⟨by simp [go_sem], by simp [go_sem], by simp [go_sem], by simp [go_sem], by simp [go_sem], by simp [go_sem], by simp [go_sem], by simp [go_sem], by simp [go_sem], by simp [go_sem], by simp [go_sem], by simp [go_sem], by simp [go_sem], by simp [go_sem], by simp [go_sem], KA⟩
  have l0 : LivS (((w.alloc (.cells #[.slice At nt ct, .slice Ak nk ck, .int .i64 a, .int .i64 b, .int .i64 c, .int .i64 d, .int .i64 e, .int .i64 W, .int .i64 H, x, r, y] 44)).alloc (.cells #[.int .i64 T, .int .i64 Z, .slice (some ⟨g, off, none⟩) N cp] 48)).alloc (.cells #[.int .i64 0, .int .i64 0, .slice none 0 0] 48)) (w.heap.size + 1 + 1) (.int .i64 0) (.int .i64 0) (.slice none 0 0) := ⟨by simp [go_sem], by simp [go_sem], by simp [go_sem]⟩
  have C1 := Lib.hid (isStateOn_any At Ak nt nk ct ck l m a b c d e W H x r y lt lr ld T Z (.slice (some ⟨g, off, none⟩) N cp) us _ (hs.keep KA) (ht.keep KA) (hu.keep KA) (hB.keep KA) (hS.keep KA))
  have HS := Lib.hid hS
  have hn6 := hS.b
  rw [hN] at hn6
  cases ho : brdOk ⟨l, m, a, b, c, d, e⟩ W H lt lr ld && staOk ⟨l, m, a, b, c, d, e⟩ W H lt T Z us
  · rw [ho] at C1
    clear hs ht hu hB hS ho
    go_enter Tryz.func29, Tryz.ntmps29
    go_wp2_with fail
    refine C1.out.mono ?_
    rintro e1 w1 ⟨rfl, k1⟩
    have l1 := livS_keep k1 l0
    have K1 := KA.trans k1
    clear s0 l0
    go_wp2_with fail
    exact bodyPost_ret (v := .tuple #[sv 0 0 (.slice none 0 0), .bool false]) (by simp [results, Tryz.results29, go_sem, *]) rfl (StPost.no (((K1.setCell (by simp <;> omega) _).setCell (by simp <;> omega) _).setCell (by simp <;> omega) _))
  rw [ho] at C1
  have HN := Lib.hid hN
  have HI1 : Hid (∀ (q : Nat) (x : Uni), us[q]? = some x → x.s = 0 ∨ x.s = 1) := Lib.hid fun q x hq => by
    simp only [Bool.and_eq_true] at ho
    exact (uniOk_side ((staOk_parts ho.2).2.2.1 x (List.mem_of_getElem? hq))).1
  have CC : Hid (∀ w, RdU w (.slice (some ⟨g, off, none⟩) N cp) us → Calls Tryz.prog 53 #[sv T Z (.slice (some ⟨g, off, none⟩) N cp)] w fun e w' => ∃ A' c', e = .returned (sv T Z (.slice A' N c')) ∧ OwnU w' w.heap.size (.slice A' N c') us ∧ Kp w w') := Lib.hid fun w h => copyState_any T Z g off N cp us w h hN hn6
  have HL : Hid (swP us N = swL us) := Lib.hid (by subst hN; exact swP_all us)
  have H0 : Hid (swP us 0 = us) := Lib.hid (by simp [swP])
  have HA : Hid (∀ i x, us[i]? = some x → UniAt w g (off + i * 4) x) := Lib.hid fun i x hi => by
    obtain ⟨A2, c2, e2, h2⟩ := hS.rd
    simp only [Value.slice.injEq] at e2
    obtain ⟨e2, _, _⟩ := e2
    obtain ⟨g2, o2, e3, h3⟩ := h2 (by have := (List.getElem?_eq_some_iff.1 hi).1; omega)
    rw [← e2] at e3
    simp only [Option.some.injEq, Addr.mk.injEq] at e3
    obtain ⟨rfl, rfl, _⟩ := e3
    exact h3 i x hi
  clear hs ht hu hB hS ho hN
  go_enter Tryz.func29, Tryz.ntmps29
  go_wp2_with fail
  refine C1.out.mono ?_
  rintro e1 w1 ⟨rfl, k1⟩
  have s1 := keepp15 k1 s0
  have l1 := livS_keep k1 l0
  clear s0 l0 k1 KA
  go_wp2_with fail
  refine (CC.out _ (HS.out.keep s1.2.2.2.2.2.2.2.2.2.2.2.2.2.2.2).rd).mono ?_
  rintro e3 w3 ⟨A', c', rfl, o3, k3⟩
  have s3 := keepp15 k3 s1
  have K3 := s3.2.2.2.2.2.2.2.2.2.2.2.2.2.2.2
  have l3 := livS_keep k3 l1
  have hz1 := cell_lt l1.1.1
  have hz3 := cell_lt l3.1.1
  have HG3 : Hid (∀ G, A' = some ⟨G, 0, none⟩ → G < w3.heap.size) := Lib.hid fun G hG => by
    subst hG
    exact (World.ownsRow.lt o3 G rfl).2
  have kg : Kp w3 (w3.alloc (.cells #[.int .i64 T, .int .i64 Z, .slice A' N c'] 48)) := (Kp.refl w3).alloc _
  have O4 := Lib.hid (o3.keep kg)
  have l4 := livS_keep kg l3
  have K4 := K3.trans kg
  have m4 : LivS (w3.alloc (.cells #[.int .i64 T, .int .i64 Z, .slice A' N c'] 48)) w3.heap.size (.int .i64 T) (.int .i64 Z) (.slice A' N c') := ⟨by simp [go_sem], by simp [go_sem], by simp [go_sem]⟩
  have c4 := kg.cell s3.2.2.2.2.2.2.2.2.2.2.2.2.2.2.1
  clear o3 k3 kg s1 l1
  go_wp2_with fail
  go_loopw [19] (fun iq wx => ∃ q : Nat, q ≤ N ∧ iq = .int .i64 q ∧ OwnU wx w1.heap.size (.slice A' N c') (swP us q) ∧ LivS wx w3.heap.size (.int .i64 T) (.int .i64 Z) (.slice A' N c') ∧ LivS wx (w.heap.size + 1 + 1) (.int .i64 0) (.int .i64 0) (.slice none 0 0) ∧ Kp w wx) (fun iq _ => N - (intOf iq).toNat)
  case atStart => exact ⟨0, by omega, rfl, by rw [H0.out]; exact O4.out, m4, l4, K4⟩
  case round =>
    obtain ⟨q, hq, rfl, ho, mr, lr, kr⟩ := hrel
    clear l3 l4 m4 s3 K3 K4 O4 c4
    by_cases hlt : q < N
    · have hlt' : (q : Int) < N := by omega
      have hqO : ((q : Int)).toNat = q := by omega
      obtain ⟨sx, kx, ax, tx, hx⟩ := uni_getT HN.out hlt
      have hsx : sx = 0 ∨ sx = 1 := HI1.out q _ hx
      obtain ⟨G, rfl, hG, hNN⟩ := ho.block_at (by rw [swP_len]; have := HN.out; omega)
      clear hNN
      have hG3 := HG3.out G rfl
      have HX := Lib.hid hx
      have es : IntKind.i64.wrap (1 - sx) = 1 - sx := IntWalk.i64_in _ (by omega)
      have b0 : wr.cell? ⟨G, q * 4, none⟩ = some (.int .i64 sx) := ho.cell0 hx
      have hzr := cell_lt mr.1.1
      obtain ⟨a0, a1, a2, a3⟩ := (HA.out q _ hx).keep kr
      simp only at a0 a1 a2 a3
      clear hx
      go_upto_region 7 with (fail)
      have ku : Kp wr (wr.alloc (.cells #[.int .i64 sx, .int .i64 kx, .int .i64 ax, .int .i64 tx] 67)) := (Kp.refl wr).alloc _
      have u0 : (wr.alloc (.cells #[.int .i64 sx, .int .i64 kx, .int .i64 ax, .int .i64 tx] 67)).cell? ⟨wr.heap.size, 0, none⟩ = some (.int .i64 sx) := by simp [go_sem]
      have ho4 := ho.keep ku
      have m4 := livS_keep ku mr
      have l4 := livS_keep ku lr
      have K4 := kr.trans ku
      have b4 := ku.cell b0
      clear ku ho mr lr kr b0 a0 a1 a2 a3
      generalize (wr.alloc (.cells #[.int .i64 sx, .int .i64 kx, .int .i64 ax, .int .i64 tx] 67)) = w4 at *
      refine wp_region_still_tail 8 (by kernel_rfl) (by kernel_rfl) ?_
      simp only [List.take_succ_cons, List.take_zero, List.drop_succ_cons, List.drop_zero]
      repeat still_step
      still_call ((otherSide_any sx _ hsx).mono fun _ _ h => ⟨h.1, h.2.symm⟩)
      repeat still_step
      try refine wpStill_nil ?_
      change wpList _ _ _ _ _ w4.drew
      have ho := ho4
      have mr := m4
      have lr := l4
      have kr := K4
      have b0 := b4
      clear ho4 m4 l4 K4 b4
      have k5 : Kp w4 w4.drew := (Kp.refl w4).drew
      have o5 := ho.keep k5
      have m5 := livS_keep k5 mr
      have l5 := livS_keep k5 lr
      have K5 := kr.trans k5
      have b5 := k5.cell b0
      have f5 := World.ownsRow.frozenAt (o5.row (by rw [swP_len]; exact HN.out)) (q * 4)
      have O6 := Lib.hid (o5.swap HX.out)
      have hne1 : G ≠ w.heap.size + 1 + 1 := by omega
      have hne2 : G ≠ w3.heap.size := by omega
      have hz5 := cell_lt m5.1.1
      clear ho mr lr kr b0 k5
      generalize w4.drew = w5 at *
      clear o5
      go_wp2_with fail
      go_roundw
      case rel => exact ⟨q + 1, by omega, by go_num, O6.out, ⟨by simp [go_sem, *], by simp [go_sem, *], by simp [go_sem, *]⟩, ⟨by simp [go_sem, *], by simp [go_sem, *], by simp [go_sem, *]⟩, K5.setCell (by simp; omega) _⟩
      case measure => simp [intOf]; omega
    · obtain rfl : q = N := by omega
      rw [HL.out] at ho
      have HO := Lib.hid ho
      have hzr := cell_lt lr.1.1
      clear ho
      go_wp2_with fail
      refine bodyPost_ret (v := .tuple #[sv T Z (.slice A' q c'), .bool true]) (by simp [results, Tryz.results29, go_sem, *]) rfl ⟨_, rfl, ?_, ?_⟩
      · have n2 := HO.out.not (g := w.heap.size + 1 + 1) (by omega)
        exact (((HO.out.far n2 _).far n2 _).far n2 _).base (by omega)
      · exact ((kr.setCell (by simp <;> omega) _).setCell (by simp <;> omega) _).setCell (by simp <;> omega) _

end Go.Proofs.YtiaahpcfciomlaaGreatDoor
