/-
  LoseSteps of the reference: a new state. Nothing that was there is changed.
-/
import Derived.Test.YtiaahpcfciomlaaGreatDoorLoS
namespace Go.Proofs.YtiaahpcfciomlaaGreatDoor
open Go.RowKit

set_option maxRecDepth 100000 in
set_option maxHeartbeats 4000000 in
theorem specLoseSteps_any (At Ak : Option Addr) (nt nk ct ck : Nat) (l : List Ter) (m : List Knd) (a b c d e W H : Int) (x r y : Value) (lt lr ld : List Int) (T Z : Int) (g off N cp : Nat) (us : List Uni) (un n : Int) (w : World) (hB : BrdAt w At Ak nt nk l m x r y lt lr ld) (hS : StaAt w (.slice (some ⟨g, off, none⟩) N cp) us) (hN : us.length = N) :
    Calls Tryz.prog 26 #[bv (.slice At nt ct) (.slice Ak nk ck) a b c d e W H x r y, sv T Z (.slice (some ⟨g, off, none⟩) N cp), .int .i64 un, .int .i64 n] w (StPost (((brdOk ⟨l, m, a, b, c, d, e⟩ W H lt lr ld && staOk ⟨l, m, a, b, c, d, e⟩ W H lt T Z us) && inB un us.length) && spB 0 4 n) T Z (loL us un.toNat n) w) := by
  have KA : Kp w (((w.alloc (.cells #[.slice At nt ct, .slice Ak nk ck, .int .i64 a, .int .i64 b, .int .i64 c, .int .i64 d, .int .i64 e, .int .i64 W, .int .i64 H, x, r, y] 44)).alloc (.cells #[.int .i64 T, .int .i64 Z, .slice (some ⟨g, off, none⟩) N cp] 48)).alloc (.cells #[.int .i64 0, .int .i64 0, .slice none 0 0] 48)) := (((Kp.refl w).alloc _).alloc _).alloc _
  have s0 : (((w.alloc (.cells #[.slice At nt ct, .slice Ak nk ck, .int .i64 a, .int .i64 b, .int .i64 c, .int .i64 d, .int .i64 e, .int .i64 W, .int .i64 H, x, r, y] 44)).alloc (.cells #[.int .i64 T, .int .i64 Z, .slice (some ⟨g, off, none⟩) N cp] 48)).alloc (.cells #[.int .i64 0, .int .i64 0, .slice none 0 0] 48)).cell? ⟨w.heap.size, 0, none⟩ = some (.slice At nt ct) ∧ (((w.alloc (.cells #[.slice At nt ct, .slice Ak nk ck, .int .i64 a, .int .i64 b, .int .i64 c, .int .i64 d, .int .i64 e, .int .i64 W, .int .i64 H, x, r, y] 44)).alloc (.cells #[.int .i64 T, .int .i64 Z, .slice (some ⟨g, off, none⟩) N cp] 48)).alloc (.cells #[.int .i64 0, .int .i64 0, .slice none 0 0] 48)).cell? ⟨w.heap.size, 1, none⟩ = some (.slice Ak nk ck) ∧ (((w.alloc (.cells #[.slice At nt ct, .slice Ak nk ck, .int .i64 a, .int .i64 b, .int .i64 c, .int .i64 d, .int .i64 e, .int .i64 W, .int .i64 H, x, r, y] 44)).alloc (.cells #[.int .i64 T, .int .i64 Z, .slice (some ⟨g, off, none⟩) N cp] 48)).alloc (.cells #[.int .i64 0, .int .i64 0, .slice none 0 0] 48)).cell? ⟨w.heap.size, 2, none⟩ = some (.int .i64 a) ∧ (((w.alloc (.cells #[.slice At nt ct, .slice Ak nk ck, .int .i64 a, .int .i64 b, .int .i64 c, .int .i64 d, .int .i64 e, .int .i64 W, .int .i64 H, x, r, y] 44)).alloc (.cells #[.int .i64 T, .int .i64 Z, .slice (some ⟨g, off, none⟩) N cp] 48)).alloc (.cells #[.int .i64 0, .int .i64 0, .slice none 0 0] 48)).cell? ⟨w.heap.size, 3, none⟩ = some (.int .i64 b) ∧ (((w.alloc (.cells #[.slice At nt ct, .slice Ak nk ck, .int .i64 a, .int .i64 b, .int .i64 c, .int .i64 d, .int .i64 e, .int .i64 W, .int .i64 H, x, r, y] 44)).alloc (.cells #[.int .i64 T, .int .i64 Z, .slice (some ⟨g, off, none⟩) N cp] 48)).alloc (.cells #[.int .i64 0, .int .i64 0, .slice none 0 0] 48)).cell? ⟨w.heap.size, 4, none⟩ = some (.int .i64 c) ∧ (((w.alloc (.cells #[.slice At nt ct, .slice Ak nk ck, .int .i64 a, .int .i64 b, .int .i64 c, .int .i64 d, .int .i64 e, .int .i64 W, .int .i64 H, x, r, y] 44)).alloc (.cells #[.int .i64 T, .int .i64 Z, .slice (some ⟨g, off, none⟩) N cp] 48)).alloc (.cells #[.int .i64 0, .int .i64 0, .slice none 0 0] 48)).cell? ⟨w.heap.size, 5, none⟩ = some (.int .i64 d) ∧ (((w.alloc (.cells #[.slice At nt ct, .slice Ak nk ck, .int .i64 a, .int .i64 b, .int .i64 c, .int .i64 d, .int .i64 e, .int .i64 W, .int .i64 H, x, r, y] 44)).alloc (.cells #[.int .i64 T, .int .i64 Z, .slice (some ⟨g, off, none⟩) N cp] 48)).alloc (.cells #[.int .i64 0, .int .i64 0, .slice none 0 0] 48)).cell? ⟨w.heap.size, 6, none⟩ = some (.int .i64 e) ∧ (((w.alloc (.cells #[.slice At nt ct, .slice Ak nk ck, .int .i64 a, .int .i64 b, .int .i64 c, .int .i64 d, .int .i64 e, .int .i64 W, .int .i64 H, x, r, y] 44)).alloc (.cells #[.int .i64 T, .int .i64 Z, .slice (some ⟨g, off, none⟩) N cp] 48)).alloc (.cells #[.int .i64 0, .int .i64 0, .slice none 0 0] 48)).cell? ⟨w.heap.size, 7, none⟩ = some (.int .i64 W) ∧ (((w.alloc (.cells #[.slice At nt ct, .slice Ak nk ck, .int .i64 a, .int .i64 b, .int .i64 c, .int .i64 d, .int .i64 e, .int .i64 W, .int .i64 H, x, r, y] 44)).alloc (.cells #[.int .i64 T, .int .i64 Z, .slice (some ⟨g, off, none⟩) N cp] 48)).alloc (.cells #[.int .i64 0, .int .i64 0, .slice none 0 0] 48)).cell? ⟨w.heap.size, 8, none⟩ = some (.int .i64 H) ∧ (((w.alloc (.cells #[.slice At nt ct, .slice Ak nk ck, .int .i64 a, .int .i64 b, .int .i64 c, .int .i64 d, .int .i64 e, .int .i64 W, .int .i64 H, x, r, y] 44)).alloc (.cells #[.int .i64 T, .int .i64 Z, .slice (some ⟨g, off, none⟩) N cp] 48)).alloc (.cells #[.int .i64 0, .int .i64 0, .slice none 0 0] 48)).cell? ⟨w.heap.size, 9, none⟩ = some (x) ∧ (((w.alloc (.cells #[.slice At nt ct, .slice Ak nk ck, .int .i64 a, .int .i64 b, .int .i64 c, .int .i64 d, .int .i64 e, .int .i64 W, .int .i64 H, x, r, y] 44)).alloc (.cells #[.int .i64 T, .int .i64 Z, .slice (some ⟨g, off, none⟩) N cp] 48)).alloc (.cells #[.int .i64 0, .int .i64 0, .slice none 0 0] 48)).cell? ⟨w.heap.size, 10, none⟩ = some (r) ∧ (((w.alloc (.cells #[.slice At nt ct, .slice Ak nk ck, .int .i64 a, .int .i64 b, .int .i64 c, .int .i64 d, .int .i64 e, .int .i64 W, .int .i64 H, x, r, y] 44)).alloc (.cells #[.int .i64 T, .int .i64 Z, .slice (some ⟨g, off, none⟩) N cp] 48)).alloc (.cells #[.int .i64 0, .int .i64 0, .slice none 0 0] 48)).cell? ⟨w.heap.size, 11, none⟩ = some (y) ∧ (((w.alloc (.cells #[.slice At nt ct, .slice Ak nk ck, .int .i64 a, .int .i64 b, .int .i64 c, .int .i64 d, .int .i64 e, .int .i64 W, .int .i64 H, x, r, y] 44)).alloc (.cells #[.int .i64 T, .int .i64 Z, .slice (some ⟨g, off, none⟩) N cp] 48)).alloc (.cells #[.int .i64 0, .int .i64 0, .slice none 0 0] 48)).cell? ⟨w.heap.size + 1, 0, none⟩ = some (.int .i64 T) ∧ (((w.alloc (.cells #[.slice At nt ct, .slice Ak nk ck, .int .i64 a, .int .i64 b, .int .i64 c, .int .i64 d, .int .i64 e, .int .i64 W, .int .i64 H, x, r, y] 44)).alloc (.cells #[.int .i64 T, .int .i64 Z, .slice (some ⟨g, off, none⟩) N cp] 48)).alloc (.cells #[.int .i64 0, .int .i64 0, .slice none 0 0] 48)).cell? ⟨w.heap.size + 1, 1, none⟩ = some (.int .i64 Z) ∧ (((w.alloc (.cells #[.slice At nt ct, .slice Ak nk ck, .int .i64 a, .int .i64 b, .int .i64 c, .int .i64 d, .int .i64 e, .int .i64 W, .int .i64 H, x, r, y] 44)).alloc (.cells #[.int .i64 T, .int .i64 Z, .slice (some ⟨g, off, none⟩) N cp] 48)).alloc (.cells #[.int .i64 0, .int .i64 0, .slice none 0 0] 48)).cell? ⟨w.heap.size + 1, 2, none⟩ = some (.slice (some ⟨g, off, none⟩) N cp) ∧ Kp w (((w.alloc (.cells #[.slice At nt ct, .slice Ak nk ck, .int .i64 a, .int .i64 b, .int .i64 c, .int .i64 d, .int .i64 e, .int .i64 W, .int .i64 H, x, r, y] 44)).alloc (.cells #[.int .i64 T, .int .i64 Z, .slice (some ⟨g, off, none⟩) N cp] 48)).alloc (.cells #[.int .i64 0, .int .i64 0, .slice none 0 0] 48)) := ⟨by simp [go_sem], by simp [go_sem], by simp [go_sem], by simp [go_sem], by simp [go_sem], by simp [go_sem], by simp [go_sem], by simp [go_sem], by simp [go_sem], by simp [go_sem], by simp [go_sem], by simp [go_sem], by simp [go_sem], by simp [go_sem], by simp [go_sem], KA⟩
  have l0 : LivS (((w.alloc (.cells #[.slice At nt ct, .slice Ak nk ck, .int .i64 a, .int .i64 b, .int .i64 c, .int .i64 d, .int .i64 e, .int .i64 W, .int .i64 H, x, r, y] 44)).alloc (.cells #[.int .i64 T, .int .i64 Z, .slice (some ⟨g, off, none⟩) N cp] 48)).alloc (.cells #[.int .i64 0, .int .i64 0, .slice none 0 0] 48)) (w.heap.size + 1 + 1) (.int .i64 0) (.int .i64 0) (.slice none 0 0) := ⟨by simp [go_sem], by simp [go_sem], by simp [go_sem]⟩
  have C1 := Lib.hid (sGood_any At Ak nt nk ct ck l m a b c d e W H x r y lt lr ld T Z (.slice (some ⟨g, off, none⟩) N cp) us _ (hB.keep KA) (hS.keep KA))
  have HS := Lib.hid hS
  have hn6 := hS.b
  rw [hN] at hn6
  rw [hN]
  have ewn : IntKind.i64.wrap ((N : Int) - 1) = (N : Int) - 1 := IntWalk.i64_in _ (by omega)
  have CN : Hid (∀ w, Calls Tryz.prog 46 #[.int .i64 un, .int .i64 0, .int .i64 ((N : Int) - 1)] w fun e w' => e = .returned (.bool (inB un N)) ∧ w = w') := Lib.hid fun w => l1In_lt un N _ w rfl
  have CL : Hid (∀ w, Calls Tryz.prog 46 #[.int .i64 n, .int .i64 0, .int .i64 4] w fun e w' => e = .returned (.bool (spB 0 4 n)) ∧ w = w') := Lib.hid fun w => l1In_sp n 0 4 w
  cases ho : brdOk ⟨l, m, a, b, c, d, e⟩ W H lt lr ld && staOk ⟨l, m, a, b, c, d, e⟩ W H lt T Z us
  · rw [ho] at C1
    rw [Bool.false_and, Bool.false_and]
    clear hB hS ho
    go_enter Tryz.func26, Tryz.ntmps26
    go_wp2_with fail
    refine C1.out.mono ?_
    rintro e1 w1 ⟨rfl, k1⟩
    have l1 := livS_keep k1 l0
    have K1 := KA.trans k1
    clear s0 l0
    go_wp2_with fail
    exact bodyPost_ret (v := .tuple #[sv 0 0 (.slice none 0 0), .bool false]) (by simp [results, Tryz.results26, go_sem, *]) rfl (StPost.no (((K1.setCell (by simp <;> omega) _).setCell (by simp <;> omega) _).setCell (by simp <;> omega) _))
  rw [ho] at C1
  rw [Bool.true_and]
  cases hin : inB un N
  · rw [hin] at CN
    rw [Bool.false_and]
    clear hB hS ho hin
    go_enter Tryz.func26, Tryz.ntmps26
    go_wp2_with fail
    refine C1.out.mono ?_
    rintro e1 w1 ⟨rfl, k1⟩
    have s1 := keepp15 k1 s0
    have l1 := livS_keep k1 l0
    clear s0 l0
    go_wp2_with fail
    refine (CN.out _).mono ?_
    rintro e2 w2 ⟨rfl, rfl⟩
    have K2 := s1.2.2.2.2.2.2.2.2.2.2.2.2.2.2.2
    clear s1
    go_wp2_with fail
    exact bodyPost_ret (v := .tuple #[sv 0 0 (.slice none 0 0), .bool false]) (by simp [results, Tryz.results26, go_sem, *]) rfl (StPost.no (((K2.setCell (by simp <;> omega) _).setCell (by simp <;> omega) _).setCell (by simp <;> omega) _))
  rw [hin] at CN
  rw [Bool.true_and]
  cases hsp : spB 0 4 n
  · rw [hsp] at CL
    clear hB hS ho hin hsp
    go_enter Tryz.func26, Tryz.ntmps26
    go_wp2_with fail
    refine C1.out.mono ?_
    rintro e1 w1 ⟨rfl, k1⟩
    have s1 := keepp15 k1 s0
    have l1 := livS_keep k1 l0
    clear s0 l0
    go_wp2_with fail
    refine (CN.out _).mono ?_
    rintro e2 w2 ⟨rfl, rfl⟩
    go_wp2_with fail
    refine (CL.out _).mono ?_
    rintro e2 w2 ⟨rfl, rfl⟩
    have K2 := s1.2.2.2.2.2.2.2.2.2.2.2.2.2.2.2
    clear s1
    go_wp2_with fail
    exact bodyPost_ret (v := .tuple #[sv 0 0 (.slice none 0 0), .bool false]) (by simp [results, Tryz.results26, go_sem, *]) rfl (StPost.no (((K2.setCell (by simp <;> omega) _).setCell (by simp <;> omega) _).setCell (by simp <;> omega) _))
  rw [hsp] at CL
  have hn : 0 ≤ n ∧ n ≤ 4 := by simpa [spB] using hsp
  obtain ⟨U, rfl, hU⟩ := inB_at hin
  obtain ⟨px, hx⟩ : ∃ x, us[U]? = some x := ⟨us[U]'(by omega), List.getElem?_eq_getElem _⟩
  have htx : isI64 px.t ∧ 0 ≤ px.t := by
    simp only [Bool.and_eq_true] at ho
    exact ⟨(hS.i px (List.mem_of_getElem? hx)).2.2.2, (uniOk_side ((staOk_parts ho.2).2.2.1 px (List.mem_of_getElem? hx))).2.2.1.1⟩
  have HN := Lib.hid hN
  have CC : Hid (∀ w, RdU w (.slice (some ⟨g, off, none⟩) N cp) us → Calls Tryz.prog 50 #[sv T Z (.slice (some ⟨g, off, none⟩) N cp)] w fun e w' => ∃ A' c', e = .returned (sv T Z (.slice A' N c')) ∧ OwnU w' w.heap.size (.slice A' N c') us ∧ Kp w w') := Lib.hid fun w h => sOwn_any T Z g off N cp us w h hN hn6
  simp only [Int.toNat_natCast]
  have CO : Hid (∀ (G c' base : Nat) (w : World), OwnU w base (.slice (some ⟨G, 0, none⟩) N c') us → Calls Tryz.prog 56 #[sv T Z (.slice (some ⟨G, 0, none⟩) N c'), .int .i64 U, .int .i64 n] w (LoPost w base (.slice (some ⟨G, 0, none⟩) N c') (loL us U n) G)) := Lib.hid fun G c' base w h => sLose_any T Z G N c' U base us px n w h hN hx htx hn
  obtain ⟨LL, hLL⟩ : ∃ z, loL us U n = z := ⟨_, rfl⟩
  rw [hLL] at CO ⊢
  clear hB hS ho hin hx hN htx hsp hn hLL
  go_enter Tryz.func26, Tryz.ntmps26
  go_wp2_with fail
  refine C1.out.mono ?_
  rintro e1 w1 ⟨rfl, k1⟩
  have s1 := keepp15 k1 s0
  have l1 := livS_keep k1 l0
  clear s0 l0 k1 KA
  go_wp2_with fail
  refine (CN.out _).mono ?_
  rintro e2 w2 ⟨rfl, rfl⟩
  go_wp2_with fail
  refine (CL.out _).mono ?_
  rintro e2 w2 ⟨rfl, rfl⟩
  go_wp2_with fail
  refine (CC.out _ (HS.out.keep s1.2.2.2.2.2.2.2.2.2.2.2.2.2.2.2).rd).mono ?_
  rintro e3 w3 ⟨A', c', rfl, o3, k3⟩
  obtain ⟨G, rfl, hG, hNN⟩ := o3.block_at (by have := HN.out; omega)
  clear hNN
  have K3 := s1.2.2.2.2.2.2.2.2.2.2.2.2.2.2.2.trans k3
  have l3 := livS_keep k3 l1
  have hz1 := cell_lt l1.1.1
  have hz3 := cell_lt l3.1.1
  have hG3 := (World.ownsRow.lt o3 G rfl).2
  have kg : Kp w3 (w3.alloc (.cells #[.int .i64 T, .int .i64 Z, .slice (some ⟨G, 0, none⟩) N c'] 48)) := (Kp.refl w3).alloc _
  have O4 := Lib.hid (o3.keep kg)
  have l4 := livS_keep kg l3
  have K4 := K3.trans kg
  have m4 : LivS (w3.alloc (.cells #[.int .i64 T, .int .i64 Z, .slice (some ⟨G, 0, none⟩) N c'] 48)) w3.heap.size (.int .i64 T) (.int .i64 Z) (.slice (some ⟨G, 0, none⟩) N c') := ⟨by simp [go_sem], by simp [go_sem], by simp [go_sem]⟩
  clear o3 k3 kg s1 l1 l3 K3
  go_wp2_with fail
  refine (CO.out G c' _ _ O4.out).mono ?_
  rintro e4 w4 ⟨⟨v4, rfl⟩, o4, kk4, ll4⟩
  have K5 := kk4 w K4 (by omega)
  have l5 := ll4 _ _ _ _ (by omega) l4
  have m5 := ll4 _ _ _ _ (by omega) m4
  have HO := Lib.hid o4
  have hz5 := cell_lt l5.1.1
  clear o4 kk4 ll4 l4 m4 K4 O4
  go_wp2_with fail
  refine bodyPost_ret (v := .tuple #[sv T Z (.slice (some ⟨G, 0, none⟩) N c'), .bool true]) (by simp [results, Tryz.results26, go_sem, *]) rfl ⟨_, rfl, ?_, ?_⟩
  · have n2 := HO.out.not (g := w.heap.size + 1 + 1) (by omega)
    exact (((HO.out.far n2 _).far n2 _).far n2 _).base (by omega)
  · exact ((K5.setCell (by simp <;> omega) _).setCell (by simp <;> omega) _).setCell (by simp <;> omega) _

end Go.Proofs.YtiaahpcfciomlaaGreatDoor
