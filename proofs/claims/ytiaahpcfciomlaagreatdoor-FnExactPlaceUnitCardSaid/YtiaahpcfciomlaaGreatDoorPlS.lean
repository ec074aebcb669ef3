/-
  PlaceUnit of the reference: a new state. Nothing that was there is changed.
-/
import Derived.Test.YtiaahpcfciomlaaGreatDoorPlU
namespace Go.Proofs.YtiaahpcfciomlaaGreatDoor
open Go.RowKit


set_option maxRecDepth 100000 in
set_option maxHeartbeats 4000000 in
theorem sIf_any (At Ak : Option Addr) (nt nk ct ck : Nat) (l : List Ter) (m : List Knd) (a b c d e W H : Int) (x r y : Value) (lt lr ld : List Int) (T Z : Int) (Av : Option Addr) (Nv cv : Nat) (us : List Uni) (w : World) (hB : BrdAt w At Ak nt nk l m x r y lt lr ld) (hS : StaAt w (.slice Av Nv cv) us) (R : Bool) (hR : (brdOk ⟨l, m, a, b, c, d, e⟩ W H lt lr ld && staOk ⟨l, m, a, b, c, d, e⟩ W H lt T Z us) = R) :
    Calls Tryz.prog 51 #[bv (.slice At nt ct) (.slice Ak nk ck) a b c d e W H x r y, sv T Z (.slice Av Nv cv)] w fun e' w' => e' = .returned (.tuple #[if R = true then sv T Z (.slice Av Nv cv) else sv 0 0 (.slice none 0 0), .bool R]) ∧ Kp w w' := by
  have KA : Kp w (((w.alloc (.cells #[.slice At nt ct, .slice Ak nk ck, .int .i64 a, .int .i64 b, .int .i64 c, .int .i64 d, .int .i64 e, .int .i64 W, .int .i64 H, x, r, y] 44)).alloc (.cells #[.int .i64 T, .int .i64 Z, .slice Av Nv cv] 48)).alloc (.cells #[.int .i64 0, .int .i64 0, .slice none 0 0] 48)) := (((Kp.refl w).alloc _).alloc _).alloc _
  have s0 : (((w.alloc (.cells #[.slice At nt ct, .slice Ak nk ck, .int .i64 a, .int .i64 b, .int .i64 c, .int .i64 d, .int .i64 e, .int .i64 W, .int .i64 H, x, r, y] 44)).alloc (.cells #[.int .i64 T, .int .i64 Z, .slice Av Nv cv] 48)).alloc (.cells #[.int .i64 0, .int .i64 0, .slice none 0 0] 48)).cell? ⟨w.heap.size, 0, none⟩ = some (.slice At nt ct) ∧ (((w.alloc (.cells #[.slice At nt ct, .slice Ak nk ck, .int .i64 a, .int .i64 b, .int .i64 c, .int .i64 d, .int .i64 e, .int .i64 W, .int .i64 H, x, r, y] 44)).alloc (.cells #[.int .i64 T, .int .i64 Z, .slice Av Nv cv] 48)).alloc (.cells #[.int .i64 0, .int .i64 0, .slice none 0 0] 48)).cell? ⟨w.heap.size, 1, none⟩ = some (.slice Ak nk ck) ∧ (((w.alloc (.cells #[.slice At nt ct, .slice Ak nk ck, .int .i64 a, .int .i64 b, .int .i64 c, .int .i64 d, .int .i64 e, .int .i64 W, .int .i64 H, x, r, y] 44)).alloc (.cells #[.int .i64 T, .int .i64 Z, .slice Av Nv cv] 48)).alloc (.cells #[.int .i64 0, .int .i64 0, .slice none 0 0] 48)).cell? ⟨w.heap.size, 2, none⟩ = some (.int .i64 a) ∧ (((w.alloc (.cells #[.slice At nt ct, .slice Ak nk ck, .int .i64 a, .int .i64 b, .int .i64 c, .int .i64 d, .int .i64 e, .int .i64 W, .int .i64 H, x, r, y] 44)).alloc (.cells #[.int .i64 T, .int .i64 Z, .slice Av Nv cv] 48)).alloc (.cells #[.int .i64 0, .int .i64 0, .slice none 0 0] 48)).cell? ⟨w.heap.size, 3, none⟩ = some (.int .i64 b) ∧ (((w.alloc (.cells #[.slice At nt ct, .slice Ak nk ck, .int .i64 a, .int .i64 b, .int .i64 c, .int .i64 d, .int .i64 e, .int .i64 W, .int .i64 H, x, r, y] 44)).alloc (.cells #[.int .i64 T, .int .i64 Z, .slice Av Nv cv] 48)).alloc (.cells #[.int .i64 0, .int .i64 0, .slice none 0 0] 48)).cell? ⟨w.heap.size, 4, none⟩ = some (.int .i64 c) ∧ (((w.alloc (.cells #[.slice At nt ct, .slice Ak nk ck, .int .i64 a, .int .i64 b, .int .i64 c, .int .i64 d, .int .i64 e, .int .i64 W, .int .i64 H, x, r, y] 44)).alloc (.cells #[.int .i64 T, .int .i64 Z, .slice Av Nv cv] 48)).alloc (.cells #[.int .i64 0, .int .i64 0, .slice none 0 0] 48)).cell? ⟨w.heap.size, 5, none⟩ = some (.int .i64 d) ∧ (((w.alloc (.cells #[.slice At nt ct, .slice Ak nk ck, .int .i64 a, .int .i64 b, .int .i64 c, .int .i64 d, .int .i64 e, .int .i64 W, .int .i64 H, x, r, y] 44)).alloc (.cells #[.int .i64 T, .int .i64 Z, .slice Av Nv cv] 48)).alloc (.cells #[.int .i64 0, .int .i64 0, .slice none 0 0] 48)).cell? ⟨w.heap.size, 6, none⟩ = some (.int .i64 e) ∧ (((w.alloc (.cells #[.slice At nt ct, .slice Ak nk ck, .int .i64 a, .int .i64 b, .int .i64 c, .int .i64 d, .int .i64 e, .int .i64 W, .int .i64 H, x, r, y] 44)).alloc (.cells #[.int .i64 T, .int .i64 Z, .slice Av Nv cv] 48)).alloc (.cells #[.int .i64 0, .int .i64 0, .slice none 0 0] 48)).cell? ⟨w.heap.size, 7, none⟩ = some (.int .i64 W) ∧ (((w.alloc (.cells #[.slice At nt ct, .slice Ak nk ck, .int .i64 a, .int .i64 b, .int .i64 c, .int .i64 d, .int .i64 e, .int .i64 W, .int .i64 H, x, r, y] 44)).alloc (.cells #[.int .i64 T, .int .i64 Z, .slice Av Nv cv] 48)).alloc (.cells #[.int .i64 0, .int .i64 0, .slice none 0 0] 48)).cell? ⟨w.heap.size, 8, none⟩ = some (.int .i64 H) ∧ (((w.alloc (.cells #[.slice At nt ct, .slice Ak nk ck, .int .i64 a, .int .i64 b, .int .i64 c, .int .i64 d, .int .i64 e, .int .i64 W, .int .i64 H, x, r, y] 44)).alloc (.cells #[.int .i64 T, .int .i64 Z, .slice Av Nv cv] 48)).alloc (.cells #[.int .i64 0, .int .i64 0, .slice none 0 0] 48)).cell? ⟨w.heap.size, 9, none⟩ = some (x) ∧ (((w.alloc (.cells #[.slice At nt ct, .slice Ak nk ck, .int .i64 a, .int .i64 b, .int .i64 c, .int .i64 d, .int .i64 e, .int .i64 W, .int .i64 H, x, r, y] 44)).alloc (.cells #[.int .i64 T, .int .i64 Z, .slice Av Nv cv] 48)).alloc (.cells #[.int .i64 0, .int .i64 0, .slice none 0 0] 48)).cell? ⟨w.heap.size, 10, none⟩ = some (r) ∧ (((w.alloc (.cells #[.slice At nt ct, .slice Ak nk ck, .int .i64 a, .int .i64 b, .int .i64 c, .int .i64 d, .int .i64 e, .int .i64 W, .int .i64 H, x, r, y] 44)).alloc (.cells #[.int .i64 T, .int .i64 Z, .slice Av Nv cv] 48)).alloc (.cells #[.int .i64 0, .int .i64 0, .slice none 0 0] 48)).cell? ⟨w.heap.size, 11, none⟩ = some (y) ∧ (((w.alloc (.cells #[.slice At nt ct, .slice Ak nk ck, .int .i64 a, .int .i64 b, .int .i64 c, .int .i64 d, .int .i64 e, .int .i64 W, .int .i64 H, x, r, y] 44)).alloc (.cells #[.int .i64 T, .int .i64 Z, .slice Av Nv cv] 48)).alloc (.cells #[.int .i64 0, .int .i64 0, .slice none 0 0] 48)).cell? ⟨w.heap.size + 1, 0, none⟩ = some (.int .i64 T) ∧ (((w.alloc (.cells #[.slice At nt ct, .slice Ak nk ck, .int .i64 a, .int .i64 b, .int .i64 c, .int .i64 d, .int .i64 e, .int .i64 W, .int .i64 H, x, r, y] 44)).alloc (.cells #[.int .i64 T, .int .i64 Z, .slice Av Nv cv] 48)).alloc (.cells #[.int .i64 0, .int .i64 0, .slice none 0 0] 48)).cell? ⟨w.heap.size + 1, 1, none⟩ = some (.int .i64 Z) ∧ (((w.alloc (.cells #[.slice At nt ct, .slice Ak nk ck, .int .i64 a, .int .i64 b, .int .i64 c, .int .i64 d, .int .i64 e, .int .i64 W, .int .i64 H, x, r, y] 44)).alloc (.cells #[.int .i64 T, .int .i64 Z, .slice Av Nv cv] 48)).alloc (.cells #[.int .i64 0, .int .i64 0, .slice none 0 0] 48)).cell? ⟨w.heap.size + 1, 2, none⟩ = some (.slice Av Nv cv) ∧ Kp w (((w.alloc (.cells #[.slice At nt ct, .slice Ak nk ck, .int .i64 a, .int .i64 b, .int .i64 c, .int .i64 d, .int .i64 e, .int .i64 W, .int .i64 H, x, r, y] 44)).alloc (.cells #[.int .i64 T, .int .i64 Z, .slice Av Nv cv] 48)).alloc (.cells #[.int .i64 0, .int .i64 0, .slice none 0 0] 48)) := ⟨by simp [go_sem], by simp [go_sem], by simp [go_sem], by simp [go_sem], by simp [go_sem], by simp [go_sem], by simp [go_sem], by simp [go_sem], by simp [go_sem], by simp [go_sem], by simp [go_sem], by simp [go_sem], by simp [go_sem], by simp [go_sem], by simp [go_sem], KA⟩
  have l0 : LivS (((w.alloc (.cells #[.slice At nt ct, .slice Ak nk ck, .int .i64 a, .int .i64 b, .int .i64 c, .int .i64 d, .int .i64 e, .int .i64 W, .int .i64 H, x, r, y] 44)).alloc (.cells #[.int .i64 T, .int .i64 Z, .slice Av Nv cv] 48)).alloc (.cells #[.int .i64 0, .int .i64 0, .slice none 0 0] 48)) (w.heap.size + 1 + 1) (.int .i64 0) (.int .i64 0) (.slice none 0 0) := ⟨by simp [go_sem], by simp [go_sem], by simp [go_sem]⟩
  have C1 := Lib.hid (sGood_any At Ak nt nk ct ck l m a b c d e W H x r y lt lr ld T Z (.slice Av Nv cv) us _ (hB.keep KA) (hS.keep KA))
  rw [hR] at C1
  clear hB hS hR
  cases R
  · skip
    go_enter Tryz.func51, Tryz.ntmps51
    go_wp2_with fail
    refine C1.out.mono ?_
    rintro e1 w1 ⟨rfl, k1⟩
    have l1 := livS_keep k1 l0
    have K1 := KA.trans k1
    clear s0 l0
    go_wp2_with fail
    exact bodyPost_ret (v := .tuple #[sv 0 0 (.slice none 0 0), .bool false]) (by simp [results, Tryz.results51, go_sem, *]) rfl ⟨rfl, ((K1.setCell (by simp <;> omega) _).setCell (by simp <;> omega) _).setCell (by simp <;> omega) _⟩
  · skip
    go_enter Tryz.func51, Tryz.ntmps51
    go_wp2_with fail
    refine C1.out.mono ?_
    rintro e1 w1 ⟨rfl, k1⟩
    have s1 := keepp15 k1 s0
    have l1 := livS_keep k1 l0
    clear s0 l0
    go_wp2_with fail
    exact bodyPost_ret (v := .tuple #[sv T Z (.slice Av Nv cv), .bool true]) (by simp [results, Tryz.results51, go_sem, *]) rfl ⟨rfl, ((s1.2.2.2.2.2.2.2.2.2.2.2.2.2.2.2.setCell (by simp <;> omega) _).setCell (by simp <;> omega) _).setCell (by simp <;> omega) _⟩

set_option maxRecDepth 100000 in
set_option maxHeartbeats 4000000 in
theorem specPlaceUnit_any (At Ak : Option Addr) (nt nk ct ck : Nat) (l : List Ter) (m : List Knd) (a b c d e W H : Int) (x r y : Value) (lt lr ld : List Int) (T Z : Int) (g off N cp : Nat) (us : List Uni) (un i : Int) (w : World) (hB : BrdAt w At Ak nt nk l m x r y lt lr ld) (hS : StaAt w (.slice (some ⟨g, off, none⟩) N cp) us) (hN : us.length = N) (hI : isI64 i) :
    Calls Tryz.prog 23 #[bv (.slice At nt ct) (.slice Ak nk ck) a b c d e W H x r y, sv T Z (.slice (some ⟨g, off, none⟩) N cp), .int .i64 un, .int .i64 i] w (StPost (((brdOk ⟨l, m, a, b, c, d, e⟩ W H lt lr ld && staOk ⟨l, m, a, b, c, d, e⟩ W H lt T Z us) && inB un us.length) && staOk ⟨l, m, a, b, c, d, e⟩ W H lt T Z (plU us un.toNat i)) T Z (plU us un.toNat i) w) := by
  have KA : Kp w (((w.alloc (.cells #[.slice At nt ct, .slice Ak nk ck, .int .i64 a, .int .i64 b, .int .i64 c, .int .i64 d, .int .i64 e, .int .i64 W, .int .i64 H, x, r, y] 44)).alloc (.cells #[.int .i64 T, .int .i64 Z, .slice (some ⟨g, off, none⟩) N cp] 48)).alloc (.cells #[.int .i64 0, .int .i64 0, .slice none 0 0] 48)) := (((Kp.refl w).alloc _).alloc _).alloc _
  have s0 : (((w.alloc (.cells #[.slice At nt ct, .slice Ak nk ck, .int .i64 a, .int .i64 b, .int .i64 c, .int .i64 d, .int .i64 e, .int .i64 W, .int .i64 H, x, r, y] 44)).alloc (.cells #[.int .i64 T, .int .i64 Z, .slice (some ⟨g, off, none⟩) N cp] 48)).alloc (.cells #[.int .i64 0, .int .i64 0, .slice none 0 0] 48)).cell? ⟨w.heap.size, 0, none⟩ = some (.slice At nt ct) ∧ (((w.alloc (.cells #[.slice At nt ct, .slice Ak nk ck, .int .i64 a, .int .i64 b, .int .i64 c, .int .i64 d, .int .i64 e, .int .i64 W, .int .i64 H, x, r, y] 44)).alloc (.cells #[.int .i64 T, .int .i64 Z, .slice (some ⟨g, off, none⟩) N cp] 48)).alloc (.cells #[.int .i64 0, .int .i64 0, .slice none 0 0] 48)).cell? ⟨w.heap.size, 1, none⟩ = some (.slice Ak nk ck) ∧ (((w.alloc (.cells #[.slice At nt ct, .slice Ak nk ck, .int .i64 a, .int .i64 b, .int .i64 c, .int .i64 d, .int .i64 e, .int .i64 W, .int .i64 H, x, r, y] 44)).alloc (.cells #[.int .i64 T, .int .i64 Z, .slice (some ⟨g, off, none⟩) N cp] 48)).alloc (.cells #[.int .i64 0, .int .i64 0, .slice none 0 0] 48)).cell? ⟨w.heap.size, 2, none⟩ = some (.int .i64 a) ∧ (((w.alloc (.cells #[.slice At nt ct, .slice Ak nk ck, .int .i64 a, .int .i64 b, .int .i64 c, .int .i64 d, .int .i64 e, .int .i64 W, .int .i64 H, x, r, y] 44)).alloc (.cells #[.int .i64 T, .int .i64 Z, .slice (some ⟨g, off, none⟩) N cp] 48)).alloc (.cells #[.int .i64 0, .int .i64 0, .slice none 0 0] 48)).cell? ⟨w.heap.size, 3, none⟩ = some (.int .i64 b) ∧ (((w.alloc (.cells #[.slice At nt ct, .slice Ak nk ck, .int .i64 a, .int .i64 b, .int .i64 c, .int .i64 d, .int .i64 e, .int .i64 W, .int .i64 H, x, r, y] 44)).alloc (.cells #[.int .i64 T, .int .i64 Z, .slice (some ⟨g, off, none⟩) N cp] 48)).alloc (.cells #[.int .i64 0, .int .i64 0, .slice none 0 0] 48)).cell? ⟨w.heap.size, 4, none⟩ = some (.int .i64 c) ∧ (((w.alloc (.cells #[.slice At nt ct, .slice Ak nk ck, .int .i64 a, .int .i64 b, .int .i64 c, .int .i64 d, .int .i64 e, .int .i64 W, .int .i64 H, x, r, y] 44)).alloc (.cells #[.int .i64 T, .int .i64 Z, .slice (some ⟨g, off, none⟩) N cp] 48)).alloc (.cells #[.int .i64 0, .int .i64 0, .slice none 0 0] 48)).cell? ⟨w.heap.size, 5, none⟩ = some (.int .i64 d) ∧ (((w.alloc (.cells #[.slice At nt ct, .slice Ak nk ck, .int .i64 a, .int .i64 b, .int .i64 c, .int .i64 d, .int .i64 e, .int .i64 W, .int .i64 H, x, r, y] 44)).alloc (.cells #[.int .i64 T, .int .i64 Z, .slice (some ⟨g, off, none⟩) N cp] 48)).alloc (.cells #[.int .i64 0, .int .i64 0, .slice none 0 0] 48)).cell? ⟨w.heap.size, 6, none⟩ = some (.int .i64 e) ∧ (((w.alloc (.cells #[.slice At nt ct, .slice Ak nk ck, .int .i64 a, .int .i64 b, .int .i64 c, .int .i64 d, .int .i64 e, .int .i64 W, .int .i64 H, x, r, y] 44)).alloc (.cells #[.int .i64 T, .int .i64 Z, .slice (some ⟨g, off, none⟩) N cp] 48)).alloc (.cells #[.int .i64 0, .int .i64 0, .slice none 0 0] 48)).cell? ⟨w.heap.size, 7, none⟩ = some (.int .i64 W) ∧ (((w.alloc (.cells #[.slice At nt ct, .slice Ak nk ck, .int .i64 a, .int .i64 b, .int .i64 c, .int .i64 d, .int .i64 e, .int .i64 W, .int .i64 H, x, r, y] 44)).alloc (.cells #[.int .i64 T, .int .i64 Z, .slice (some ⟨g, off, none⟩) N cp] 48)).alloc (.cells #[.int .i64 0, .int .i64 0, .slice none 0 0] 48)).cell? ⟨w.heap.size, 8, none⟩ = some (.int .i64 H) ∧ (((w.alloc (.cells #[.slice At nt ct, .slice Ak nk ck, .int .i64 a, .int .i64 b, .int .i64 c, .int .i64 d, .int .i64 e, .int .i64 W, .int .i64 H, x, r, y] 44)).alloc (.cells #[.int .i64 T, .int .i64 Z, .slice (some ⟨g, off, none⟩) N cp] 48)).alloc (.cells #[.int .i64 0, .int .i64 0, .slice none 0 0] 48)).cell? ⟨w.heap.size, 9, none⟩ = some (x) ∧ (((w.alloc (.cells #[.slice At nt ct, .slice Ak nk ck, .int .i64 a, .int .i64 b, .int .i64 c, .int .i64 d, .int .i64 e, .int .i64 W, .int .i64 H, x, r, y] 44)).alloc (.cells #[.int .i64 T, .int .i64 Z, .slice (some ⟨g, off, none⟩) N cp] 48)).alloc (.cells #[.int .i64 0, .int .i64 0, .slice none 0 0] 48)).cell? ⟨w.heap.size, 10, none⟩ = some (r) ∧ (((w.alloc (.cells #[.slice At nt ct, .slice Ak nk ck, .int .i64 a, .int .i64 b, .int .i64 c, .int .i64 d, .int .i64 e, .int .i64 W, .int .i64 H, x, r, y] 44)).alloc (.cells #[.int .i64 T, .int .i64 Z, .slice (some ⟨g, off, none⟩) N cp] 48)).alloc (.cells #[.int .i64 0, .int .i64 0, .slice none 0 0] 48)).cell? ⟨w.heap.size, 11, none⟩ = some (y) ∧ (((w.alloc (.cells #[.slice At nt ct, .slice Ak nk ck, .int .i64 a, .int .i64 b, .int .i64 c, .int .i64 d, .int .i64 e, .int .i64 W, .int .i64 H, x, r, y] 44)).alloc (.cells #[.int .i64 T, .int .i64 Z, .slice (some ⟨g, off, none⟩) N cp] 48)).alloc (.cells #[.int .i64 0, .int .i64 0, .slice none 0 0] 48)).cell? ⟨w.heap.size + 1, 0, none⟩ = some (.int .i64 T) ∧ (((w.alloc (.cells #[.slice At nt ct, .slice Ak nk ck, .int .i64 a, .int .i64 b, .int .i64 c, .int .i64 d, .int .i64 e, .int .i64 W, .int .i64 H, x, r, y] 44)).alloc (.cells #[.int .i64 T, .int .i64 Z, .slice (some ⟨g, off, none⟩) N cp] 48)).alloc (.cells #[.int .i64 0, .int .i64 0, .slice none 0 0] 48)).cell? ⟨w.heap.size + 1, 1, none⟩ = some (.int .i64 Z) ∧ (((w.alloc (.cells #[.slice At nt ct, .slice Ak nk ck, .int .i64 a, .int .i64 b, .int .i64 c, .int .i64 d, .int .i64 e, .int .i64 W, .int .i64 H, x, r, y] 44)).alloc (.cells #[.int .i64 T, .int .i64 Z, .slice (some ⟨g, off, none⟩) N cp] 48)).alloc (.cells #[.int .i64 0, .int .i64 0, .slice none 0 0] 48)).cell? ⟨w.heap.size + 1, 2, none⟩ = some (.slice (some ⟨g, off, none⟩) N cp) ∧ Kp w (((w.alloc (.cells #[.slice At nt ct, .slice Ak nk ck, .int .i64 a, .int .i64 b, .int .i64 c, .int .i64 d, .int .i64 e, .int .i64 W, .int .i64 H, x, r, y] 44)).alloc (.cells #[.int .i64 T, .int .i64 Z, .slice (some ⟨g, off, none⟩) N cp] 48)).alloc (.cells #[.int .i64 0, .int .i64 0, .slice none 0 0] 48)) := ⟨by simp [go_sem], by simp [go_sem], by simp [go_sem], by simp [go_sem], by simp [go_sem], by simp [go_sem], by simp [go_sem], by simp [go_sem], by simp [go_sem], by simp [go_sem], by simp [go_sem], by simp [go_sem], by simp [go_sem], by simp [go_sem], by simp [go_sem], KA⟩
  have l0 : LivS (((w.alloc (.cells #[.slice At nt ct, .slice Ak nk ck, .int .i64 a, .int .i64 b, .int .i64 c, .int .i64 d, .int .i64 e, .int .i64 W, .int .i64 H, x, r, y] 44)).alloc (.cells #[.int .i64 T, .int .i64 Z, .slice (some ⟨g, off, none⟩) N cp] 48)).alloc (.cells #[.int .i64 0, .int .i64 0, .slice none 0 0] 48)) (w.heap.size + 1 + 1) (.int .i64 0) (.int .i64 0) (.slice none 0 0) := ⟨by simp [go_sem], by simp [go_sem], by simp [go_sem]⟩
  have C1 := Lib.hid (sGood_any At Ak nt nk ct ck l m a b c d e W H x r y lt lr ld T Z (.slice (some ⟨g, off, none⟩) N cp) us _ (hB.keep KA) (hS.keep KA))
  have HS := Lib.hid hS
  have HB := Lib.hid hB
  have hn6 := hS.b
  rw [hN] at hn6
  rw [hN]
  have ewn : IntKind.i64.wrap ((N : Int) - 1) = (N : Int) - 1 := IntWalk.i64_in _ (by omega)
  have CN : Hid (∀ w, Calls Tryz.prog 46 #[.int .i64 un, .int .i64 0, .int .i64 ((N : Int) - 1)] w fun e w' => e = .returned (.bool (inB un N)) ∧ w = w') := Lib.hid fun w => l1In_lt un N _ w rfl
  cases ho : brdOk ⟨l, m, a, b, c, d, e⟩ W H lt lr ld && staOk ⟨l, m, a, b, c, d, e⟩ W H lt T Z us
  · rw [ho] at C1
    rw [Bool.false_and, Bool.false_and]
    clear hB hS ho
    go_enter Tryz.func23, Tryz.ntmps23
    go_wp2_with fail
    refine C1.out.mono ?_
    rintro e1 w1 ⟨rfl, k1⟩
    have l1 := livS_keep k1 l0
    have K1 := KA.trans k1
    clear s0 l0
    go_wp2_with fail
    exact bodyPost_ret (v := .tuple #[sv 0 0 (.slice none 0 0), .bool false]) (by simp [results, Tryz.results23, go_sem, *]) rfl (StPost.no (((K1.setCell (by simp <;> omega) _).setCell (by simp <;> omega) _).setCell (by simp <;> omega) _))
  rw [ho] at C1
  rw [Bool.true_and]
  cases hin : inB un N
  · rw [hin] at CN
    rw [Bool.false_and]
    clear hB hS ho hin
    go_enter Tryz.func23, Tryz.ntmps23
    go_wp2_with fail
    refine C1.out.mono ?_
    rintro e1 w1 ⟨rfl, k1⟩
    have s1 := keepp15 k1 s0
    have l1 := livS_keep k1 l0
    clear s0 l0
    go_wp2_with fail
    refine (CN.out _).mono ?_
    rintro e2 w2 ⟨rfl, rfl⟩
    have K2 := s1.2.2.2.2.2.2.2.2.2.2.2.2.2.2.2
    clear s1
    go_wp2_with fail
    exact bodyPost_ret (v := .tuple #[sv 0 0 (.slice none 0 0), .bool false]) (by simp [results, Tryz.results23, go_sem, *]) rfl (StPost.no (((K2.setCell (by simp <;> omega) _).setCell (by simp <;> omega) _).setCell (by simp <;> omega) _))
  rw [hin] at CN
  rw [Bool.true_and]
  have hok : brdOk ⟨l, m, a, b, c, d, e⟩ W H lt lr ld = true := by
    simp only [Bool.and_eq_true] at ho
    exact ho.1
  obtain ⟨U, rfl, hU⟩ := inB_at hin
  obtain ⟨px, hx⟩ : ∃ x, us[U]? = some x := ⟨us[U]'(by omega), List.getElem?_eq_getElem _⟩
  have HX := Lib.hid hx
  have HN := Lib.hid hN
  have CC : Hid (∀ w, RdU w (.slice (some ⟨g, off, none⟩) N cp) us → Calls Tryz.prog 50 #[sv T Z (.slice (some ⟨g, off, none⟩) N cp)] w fun e w' => ∃ A' c', e = .returned (sv T Z (.slice A' N c')) ∧ OwnU w' w.heap.size (.slice A' N c') us ∧ Kp w w') := Lib.hid fun w h => sOwn_any T Z g off N cp us w h hN hn6
  simp only [Int.toNat_natCast]
  have CH := Lib.hid (fun w h1 h2 => sHex_any At Ak nt nk ct ck l m a b c d e W H x r y lt lr ld T Z (.slice (some ⟨g, off, none⟩) N cp) us i w h1 h2)
  rw [ho] at CH
  have hbad : ∀ (h1 : i ≠ -1) (h2 : onI W H i = false), staOk ⟨l, m, a, b, c, d, e⟩ W H lt T Z (plU us U i) = false := fun h1 h2 => by
    cases h9 : staOk ⟨l, m, a, b, c, d, e⟩ W H lt T Z (plU us U i)
    · rfl
    · have := plU_bad (by omega) h9 h1
      rw [h2] at this
      cases this
  obtain ⟨R, hR⟩ : ∃ R, R = staOk ⟨l, m, a, b, c, d, e⟩ W H lt T Z (plU us U i) := ⟨_, rfl⟩
  have CI : Hid (∀ Av Nv cv w, BrdAt w At Ak nt nk l m x r y lt lr ld → StaAt w (.slice Av Nv cv) (plU us U i) → Calls Tryz.prog 51 #[bv (.slice At nt ct) (.slice Ak nk ck) a b c d e W H x r y, sv T Z (.slice Av Nv cv)] w fun e' w' => e' = .returned (.tuple #[if R = true then sv T Z (.slice Av Nv cv) else sv 0 0 (.slice none 0 0), .bool R]) ∧ Kp w w') := Lib.hid fun Av Nv cv w h1 h2 => sIf_any At Ak nt nk ct ck l m a b c d e W H x r y lt lr ld T Z Av Nv cv _ w h1 h2 R (by rw [hok, hR, Bool.true_and])
  have HII := Lib.hid (UniI.place (n := U) hS.i hI)
  have hUI : (U : Int) < N := by omega
  have hUO : ((U : Int)).toNat = U := by omega
  rw [← hR] at hbad ⊢
  by_cases h1 : i = -1
  · have hd1 : (i != -1) = false := by simpa using h1
    clear hB hS ho hin hx hN hok hR hbad h1
    go_enter Tryz.func23, Tryz.ntmps23
    go_wp2_with fail
    refine C1.out.mono ?_
    rintro e1 w1 ⟨rfl, k1⟩
    have s1 := keepp15 k1 s0
    have l1 := livS_keep k1 l0
    clear s0 l0 k1 KA
    go_wp2_with fail
    refine (CN.out _).mono ?_
    rintro e2 w2 ⟨rfl, rfl⟩
    go_wp2_with fail
    refine (CC.out _ (HS.out.keep s1.2.2.2.2.2.2.2.2.2.2.2.2.2.2.2).rd).mono ?_
    rintro e3 w3 ⟨A', c', rfl, o3, k3⟩
    obtain ⟨G, rfl, hG, hNN⟩ := o3.block_at (by have := HN.out; omega)
    clear hNN
    have s3 := keepp15 k3 s1
    have l3 := livS_keep k3 l1
    have hz2 := cell_lt l1.1.1
    have hG3 := (World.ownsRow.lt o3 G rfl).2
    clear k3
    have r3 := o3.row HN.out
    obtain ⟨v4, hv4⟩ : ∃ v, w3.cell? ⟨G, U * 4 + 2, none⟩ = some v := ⟨_, (World.ownsRow.cellAt r3 (U * 4 + 2) (by omega)).trans (List.getElem?_eq_getElem (by rw [cellsU_length]; have := HN.out; omega))⟩
    have f4 := World.ownsRow.frozenAt r3 (U * 4 + 2)
    have O5 := Lib.hid (o3.place (i := i) HX.out)
    have hne2 : G ≠ w.heap.size := by omega
    have hne3 : G ≠ w.heap.size + 1 := by omega
    have hne4 : G ≠ w.heap.size + 1 + 1 := by omega
    have hz0 := cell_lt s3.1
    have hz1 := cell_lt s3.2.2.2.2.2.2.2.2.2.2.2.2.1
    have hz4 := cell_lt l3.1.1
    have K5 : Kp w ((w3.setCell ⟨G, U * 4 + 2, none⟩ (.int .i64 i)).alloc (.cells #[.int .i64 T, .int .i64 Z, .slice (some ⟨G, 0, none⟩) N c'] 48)) := (s3.2.2.2.2.2.2.2.2.2.2.2.2.2.2.2.setCell (by simp; omega) _).alloc _
    have kb5 : Kp (w3.setCell ⟨G, U * 4 + 2, none⟩ (.int .i64 i)) ((w3.setCell ⟨G, U * 4 + 2, none⟩ (.int .i64 i)).alloc (.cells #[.int .i64 T, .int .i64 Z, .slice (some ⟨G, 0, none⟩) N c'] 48)) := (Kp.refl _).alloc _
    have O6 := Lib.hid (O5.out.keep kb5)
    have SA := Lib.hid (StaAt.mk O6.out.rd (by rw [plU_len, HN.out]; exact hn6) HII.out)
    have l5 : LivS ((w3.setCell ⟨G, U * 4 + 2, none⟩ (.int .i64 i)).alloc (.cells #[.int .i64 T, .int .i64 Z, .slice (some ⟨G, 0, none⟩) N c'] 48)) (w.heap.size + 1 + 1) (.int .i64 0) (.int .i64 0) (.slice none 0 0) := ⟨by simp [go_sem, *], by simp [go_sem, *], by simp [go_sem, *]⟩
    have CX := Lib.hid (CI.out _ _ _ _ (HB.out.keep K5) SA.out)
    clear O5 r3 kb5
    cases R
    · go_wp2_with fail
      refine CX.out.mono ?_
      rintro e6 w6 ⟨rfl, k6⟩
      have l6 := livS_keep k6 l5
      have K6 := K5.trans k6
      clear s3 l3 l5 k6 hv4 f4
      simp only [if_neg Bool.false_ne_true]
      go_wp2_with fail
      exact bodyPost_ret (v := .tuple #[sv 0 0 (.slice none 0 0), .bool false]) (by simp [results, Tryz.results23, go_sem, *]) rfl (StPost.no (((K6.setCell (by simp <;> omega) _).setCell (by simp <;> omega) _).setCell (by simp <;> omega) _))
    · go_wp2_with fail
      refine CX.out.mono ?_
      rintro e6 w6 ⟨rfl, k6⟩
      have l6 := livS_keep k6 l5
      have K6 := K5.trans k6
      have O7 := Lib.hid (O6.out.keep k6)
      have hz6 := cell_lt l6.1.1
      clear s3 l3 l5 k6 hv4 f4
      simp only [if_true]
      go_wp2_with fail
      refine bodyPost_ret (v := .tuple #[sv T Z (.slice (some ⟨G, 0, none⟩) N c'), .bool true]) (by simp [results, Tryz.results23, go_sem, *]) rfl ⟨_, rfl, ?_, ?_⟩
      · have n2 := O7.out.not (g := w.heap.size + 1 + 1) (by omega)
        exact (((O7.out.far n2 _).far n2 _).far n2 _).base (by omega)
      · exact ((K6.setCell (by simp <;> omega) _).setCell (by simp <;> omega) _).setCell (by simp <;> omega) _
  have hd1 : (i != -1) = true := by simpa using h1
  cases h2 : onI W H i
  · rw [h2] at CH
    have hRf := hbad h1 h2
    subst hRf
    clear hB hS ho hin hx hN hok hR hbad h1 h2
    go_enter Tryz.func23, Tryz.ntmps23
    go_wp2_with fail
    refine C1.out.mono ?_
    rintro e1 w1 ⟨rfl, k1⟩
    have s1 := keepp15 k1 s0
    have l1 := livS_keep k1 l0
    clear s0 l0 k1 KA
    go_wp2_with fail
    refine (CN.out _).mono ?_
    rintro e2 w2 ⟨rfl, rfl⟩
    go_wp2_with fail
    refine (CH.out _ (HB.out.keep s1.2.2.2.2.2.2.2.2.2.2.2.2.2.2.2) (HS.out.keep s1.2.2.2.2.2.2.2.2.2.2.2.2.2.2.2)).mono ?_
    rintro e2b w2b ⟨rfl, k2⟩
    have l2 := livS_keep k2 l1
    have K2 := s1.2.2.2.2.2.2.2.2.2.2.2.2.2.2.2.trans k2
    clear s1 l1
    go_wp2_with fail
    exact bodyPost_ret (v := .tuple #[sv 0 0 (.slice none 0 0), .bool false]) (by simp [results, Tryz.results23, go_sem, *]) rfl (StPost.no (((K2.setCell (by simp <;> omega) _).setCell (by simp <;> omega) _).setCell (by simp <;> omega) _))
  · rw [h2] at CH
    clear hB hS ho hin hx hN hok hR hbad h1 h2
    go_enter Tryz.func23, Tryz.ntmps23
    go_wp2_with fail
    refine C1.out.mono ?_
    rintro e1 w1 ⟨rfl, k1⟩
    have s1 := keepp15 k1 s0
    have l1 := livS_keep k1 l0
    clear s0 l0 k1 KA
    go_wp2_with fail
    refine (CN.out _).mono ?_
    rintro e2 w2 ⟨rfl, rfl⟩
    go_wp2_with fail
    refine (CH.out _ (HB.out.keep s1.2.2.2.2.2.2.2.2.2.2.2.2.2.2.2) (HS.out.keep s1.2.2.2.2.2.2.2.2.2.2.2.2.2.2.2)).mono ?_
    rintro e2b w2b ⟨rfl, k2⟩
    have s2 := keepp15 k2 s1
    have l2 := livS_keep k2 l1
    clear s1 l1 k2
    go_wp2_with fail
    refine (CC.out _ (HS.out.keep s2.2.2.2.2.2.2.2.2.2.2.2.2.2.2.2).rd).mono ?_
    rintro e3 w3 ⟨A', c', rfl, o3, k3⟩
    obtain ⟨G, rfl, hG, hNN⟩ := o3.block_at (by have := HN.out; omega)
    clear hNN
    have s3 := keepp15 k3 s2
    have l3 := livS_keep k3 l2
    have hz2 := cell_lt l2.1.1
    have hG3 := (World.ownsRow.lt o3 G rfl).2
    clear k3
    have r3 := o3.row HN.out
    obtain ⟨v4, hv4⟩ : ∃ v, w3.cell? ⟨G, U * 4 + 2, none⟩ = some v := ⟨_, (World.ownsRow.cellAt r3 (U * 4 + 2) (by omega)).trans (List.getElem?_eq_getElem (by rw [cellsU_length]; have := HN.out; omega))⟩
    have f4 := World.ownsRow.frozenAt r3 (U * 4 + 2)
    have O5 := Lib.hid (o3.place (i := i) HX.out)
    have hne2 : G ≠ w.heap.size := by omega
    have hne3 : G ≠ w.heap.size + 1 := by omega
    have hne4 : G ≠ w.heap.size + 1 + 1 := by omega
    have hz0 := cell_lt s3.1
    have hz1 := cell_lt s3.2.2.2.2.2.2.2.2.2.2.2.2.1
    have hz4 := cell_lt l3.1.1
    have K5 : Kp w ((w3.setCell ⟨G, U * 4 + 2, none⟩ (.int .i64 i)).alloc (.cells #[.int .i64 T, .int .i64 Z, .slice (some ⟨G, 0, none⟩) N c'] 48)) := (s3.2.2.2.2.2.2.2.2.2.2.2.2.2.2.2.setCell (by simp; omega) _).alloc _
    have kb5 : Kp (w3.setCell ⟨G, U * 4 + 2, none⟩ (.int .i64 i)) ((w3.setCell ⟨G, U * 4 + 2, none⟩ (.int .i64 i)).alloc (.cells #[.int .i64 T, .int .i64 Z, .slice (some ⟨G, 0, none⟩) N c'] 48)) := (Kp.refl _).alloc _
    have O6 := Lib.hid (O5.out.keep kb5)
    have SA := Lib.hid (StaAt.mk O6.out.rd (by rw [plU_len, HN.out]; exact hn6) HII.out)
    have l5 : LivS ((w3.setCell ⟨G, U * 4 + 2, none⟩ (.int .i64 i)).alloc (.cells #[.int .i64 T, .int .i64 Z, .slice (some ⟨G, 0, none⟩) N c'] 48)) (w.heap.size + 1 + 1) (.int .i64 0) (.int .i64 0) (.slice none 0 0) := ⟨by simp [go_sem, *], by simp [go_sem, *], by simp [go_sem, *]⟩
    have CX := Lib.hid (CI.out _ _ _ _ (HB.out.keep K5) SA.out)
    clear O5 r3 kb5
    cases R
    · go_wp2_with fail
      refine CX.out.mono ?_
      rintro e6 w6 ⟨rfl, k6⟩
      have l6 := livS_keep k6 l5
      have K6 := K5.trans k6
      clear s3 l3 l5 k6 hv4 f4
      simp only [if_neg Bool.false_ne_true]
      go_wp2_with fail
      exact bodyPost_ret (v := .tuple #[sv 0 0 (.slice none 0 0), .bool false]) (by simp [results, Tryz.results23, go_sem, *]) rfl (StPost.no (((K6.setCell (by simp <;> omega) _).setCell (by simp <;> omega) _).setCell (by simp <;> omega) _))
    · go_wp2_with fail
      refine CX.out.mono ?_
      rintro e6 w6 ⟨rfl, k6⟩
      have l6 := livS_keep k6 l5
      have K6 := K5.trans k6
      have O7 := Lib.hid (O6.out.keep k6)
      have hz6 := cell_lt l6.1.1
      clear s3 l3 l5 k6 hv4 f4
      simp only [if_true]
      go_wp2_with fail
      refine bodyPost_ret (v := .tuple #[sv T Z (.slice (some ⟨G, 0, none⟩) N c'), .bool true]) (by simp [results, Tryz.results23, go_sem, *]) rfl ⟨_, rfl, ?_, ?_⟩
      · have n2 := O7.out.not (g := w.heap.size + 1 + 1) (by omega)
        exact (((O7.out.far n2 _).far n2 _).far n2 _).base (by omega)
      · exact ((K6.setCell (by simp <;> omega) _).setCell (by simp <;> omega) _).setCell (by simp <;> omega) _

end Go.Proofs.YtiaahpcfciomlaaGreatDoor
