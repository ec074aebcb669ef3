/-
  PlaceUnit of both sides: a new state. Nothing that was there is changed. The named variables hold what the program's text lays.
-/
import Derived.Test.YtiaahpcfciomlaaGreatDoorUnL
import Derived.Test.YtiaahpcfciomlaaGreatDoorUnH
import Derived.Test.YtiaahpcfciomlaaGreatDoorCpU
namespace Go.Proofs.YtiaahpcfciomlaaGreatDoor
open Go.RowKit

theorem keepp15 {W0 w w1 : World} {p0 p1 p2 p3 p4 p5 p6 p7 p8 p9 p10 p11 p12 p13 p14 : Addr} {v0 v1 v2 v3 v4 v5 v6 v7 v8 v9 v10 v11 v12 v13 v14 : Value} (k : Kp w w1) (h : w.cell? p0 = some v0 ∧ w.cell? p1 = some v1 ∧ w.cell? p2 = some v2 ∧ w.cell? p3 = some v3 ∧ w.cell? p4 = some v4 ∧ w.cell? p5 = some v5 ∧ w.cell? p6 = some v6 ∧ w.cell? p7 = some v7 ∧ w.cell? p8 = some v8 ∧ w.cell? p9 = some v9 ∧ w.cell? p10 = some v10 ∧ w.cell? p11 = some v11 ∧ w.cell? p12 = some v12 ∧ w.cell? p13 = some v13 ∧ w.cell? p14 = some v14 ∧ Kp W0 w) : w1.cell? p0 = some v0 ∧ w1.cell? p1 = some v1 ∧ w1.cell? p2 = some v2 ∧ w1.cell? p3 = some v3 ∧ w1.cell? p4 = some v4 ∧ w1.cell? p5 = some v5 ∧ w1.cell? p6 = some v6 ∧ w1.cell? p7 = some v7 ∧ w1.cell? p8 = some v8 ∧ w1.cell? p9 = some v9 ∧ w1.cell? p10 = some v10 ∧ w1.cell? p11 = some v11 ∧ w1.cell? p12 = some v12 ∧ w1.cell? p13 = some v13 ∧ w1.cell? p14 = some v14 ∧ Kp W0 w1 :=
  ⟨k.cell h.1, k.cell h.2.1, k.cell h.2.2.1, k.cell h.2.2.2.1, k.cell h.2.2.2.2.1, k.cell h.2.2.2.2.2.1, k.cell h.2.2.2.2.2.2.1, k.cell h.2.2.2.2.2.2.2.1, k.cell h.2.2.2.2.2.2.2.2.1, k.cell h.2.2.2.2.2.2.2.2.2.1, k.cell h.2.2.2.2.2.2.2.2.2.2.1, k.cell h.2.2.2.2.2.2.2.2.2.2.2.1, k.cell h.2.2.2.2.2.2.2.2.2.2.2.2.1, k.cell h.2.2.2.2.2.2.2.2.2.2.2.2.2.1, k.cell h.2.2.2.2.2.2.2.2.2.2.2.2.2.2.1, h.2.2.2.2.2.2.2.2.2.2.2.2.2.2.2.trans k⟩
theorem drewp15 {W0 w : World} {p0 p1 p2 p3 p4 p5 p6 p7 p8 p9 p10 p11 p12 p13 p14 : Addr} {v0 v1 v2 v3 v4 v5 v6 v7 v8 v9 v10 v11 v12 v13 v14 : Value} (h : w.cell? p0 = some v0 ∧ w.cell? p1 = some v1 ∧ w.cell? p2 = some v2 ∧ w.cell? p3 = some v3 ∧ w.cell? p4 = some v4 ∧ w.cell? p5 = some v5 ∧ w.cell? p6 = some v6 ∧ w.cell? p7 = some v7 ∧ w.cell? p8 = some v8 ∧ w.cell? p9 = some v9 ∧ w.cell? p10 = some v10 ∧ w.cell? p11 = some v11 ∧ w.cell? p12 = some v12 ∧ w.cell? p13 = some v13 ∧ w.cell? p14 = some v14 ∧ Kp W0 w) : w.drew.cell? p0 = some v0 ∧ w.drew.cell? p1 = some v1 ∧ w.drew.cell? p2 = some v2 ∧ w.drew.cell? p3 = some v3 ∧ w.drew.cell? p4 = some v4 ∧ w.drew.cell? p5 = some v5 ∧ w.drew.cell? p6 = some v6 ∧ w.drew.cell? p7 = some v7 ∧ w.drew.cell? p8 = some v8 ∧ w.drew.cell? p9 = some v9 ∧ w.drew.cell? p10 = some v10 ∧ w.drew.cell? p11 = some v11 ∧ w.drew.cell? p12 = some v12 ∧ w.drew.cell? p13 = some v13 ∧ w.drew.cell? p14 = some v14 ∧ Kp W0 w.drew :=
  ⟨h.1, h.2.1, h.2.2.1, h.2.2.2.1, h.2.2.2.2.1, h.2.2.2.2.2.1, h.2.2.2.2.2.2.1, h.2.2.2.2.2.2.2.1, h.2.2.2.2.2.2.2.2.1, h.2.2.2.2.2.2.2.2.2.1, h.2.2.2.2.2.2.2.2.2.2.1, h.2.2.2.2.2.2.2.2.2.2.2.1, h.2.2.2.2.2.2.2.2.2.2.2.2.1, h.2.2.2.2.2.2.2.2.2.2.2.2.2.1, h.2.2.2.2.2.2.2.2.2.2.2.2.2.2.1, h.2.2.2.2.2.2.2.2.2.2.2.2.2.2.2.drew⟩

/-- A new state and true, or the zero state and false. -/
def StPost (ok : Bool) (T Z : Int) (l : List Uni) (w : World) (e : Ending) (w' : World) : Prop :=
  ∃ v, e = .returned (.tuple #[sv (vI ok T) (vI ok Z) v, .bool ok]) ∧ OwnU w' w.heap.size v (if ok = true then l else []) ∧ Kp w w'
theorem StPost.no {T Z : Int} {l : List Uni} {w w' : World} (hk : Kp w w') : StPost false T Z l w (.returned (.tuple #[sv 0 0 (.slice none 0 0), .bool false])) w' := ⟨_, rfl, OwnU.nil _ _, hk⟩
/-- The list with a unit placed. -/
def plU (us : List Uni) (n : Nat) (i : Int) : List Uni := match us[n]? with
  | some x => us.set n ⟨x.s, x.k, i, x.t⟩
  | none => us
theorem plU_at {us : List Uni} {n : Nat} {x : Uni} {i : Int} (h : us[n]? = some x) : plU us n i = us.set n ⟨x.s, x.k, i, x.t⟩ := by unfold plU; rw [h]
theorem plU_len (us : List Uni) (n : Nat) (i : Int) : (plU us n i).length = us.length := by
  unfold plU
  split
  · exact List.length_set
  · rfl
theorem cellsU_place : ∀ (us : List Uni) (n : Nat) (x : Uni) (i : Int), us[n]? = some x → (cellsU us).set (n * 4 + 2) (.int .i64 i) = cellsU (us.set n ⟨x.s, x.k, i, x.t⟩)
  | [], _, _, _, h => by simp at h
  | y :: us, 0, x, i, h => by
    simp only [List.getElem?_cons_zero, Option.some.injEq] at h
    subst h
    rfl
  | y :: us, n + 1, x, i, h => by
    have := cellsU_place us n x i (by simpa using h)
    have e1 : (n + 1) * 4 + 2 = n * 4 + 2 + 1 + 1 + 1 + 1 := by omega
    rw [e1, List.set_cons_succ]
    simp only [cellsU, List.set_cons_succ, this]
theorem OwnU.block_at {w : World} {base N c : Nat} {A : Option Addr} {l : List Uni} (h : OwnU w base (.slice A N c) l) (h0 : 0 < l.length) : ∃ G, A = some ⟨G, 0, none⟩ ∧ base ≤ G ∧ N = l.length := by
  rcases h.2 with ⟨_, hn⟩ | ⟨G, cap, cur, hv, hb, _⟩
  · omega
  · simp only [Value.slice.injEq] at hv
    obtain ⟨rfl, rfl, rfl⟩ := hv
    exact ⟨G, rfl, hb, rfl⟩
theorem OwnU.row {w : World} {base N c : Nat} {A : Option Addr} {l : List Uni} (h : OwnU w base (.slice A N c) l) (hN : l.length = N) : w.ownsRow base 67 4 (.slice A N c) N (cellsU l) := by
  unfold OwnU at h
  rw [hN] at h
  exact h
theorem OwnU.place {w : World} {base G N c n : Nat} {us : List Uni} {x : Uni} {i : Int} (h : OwnU w base (.slice (some ⟨G, 0, none⟩) N c) us) (hx : us[n]? = some x) : OwnU (w.setCell ⟨G, n * 4 + 2, none⟩ (.int .i64 i)) base (.slice (some ⟨G, 0, none⟩) N c) (plU us n i) := by
  have hN : N = us.length := by
    obtain ⟨A, c', e⟩ := h.slice
    simp only [Value.slice.injEq] at e
    exact e.2.1
  subst hN
  have h2 := (World.ownsRow.stored h (n * 4 + 2) (.int .i64 i)).1
  rw [cellsU_place us n x i hx] at h2
  unfold OwnU
  rw [plU_len, plU_at hx]
  exact h2
theorem UniI.place {us : List Uni} {n : Nat} {i : Int} (h : ∀ x ∈ us, UniI x) (hi : isI64 i) : ∀ x ∈ plU us n i, UniI x := by
  intro x hx
  unfold plU at hx
  split at hx
  · rename_i y hy
    rcases List.mem_or_eq_of_mem_set hx with h1 | rfl
    · exact h x h1
    · obtain ⟨a, b, _, d⟩ := h y (List.mem_of_getElem? hy)
      exact ⟨a, b, hi, d⟩
  · exact h x hx
/-- A unit that was placed where there is no hex makes a state that is not valid. -/
theorem plU_bad {r : Rul} {W H : Int} {lt : List Int} {T Z : Int} {us : List Uni} {n : Nat} {i : Int} (hn : n < us.length) (h : staOk r W H lt T Z (plU us n i) = true) (hi : i ≠ -1) : onI W H i = true := by
  obtain ⟨_, _, hu, _⟩ := staOk_parts h
  have hx : us[n]? = some (us[n]'hn) := List.getElem?_eq_getElem _
  have h1 := hu ⟨(us[n]'hn).s, (us[n]'hn).k, i, (us[n]'hn).t⟩ (by
    rw [plU_at hx]
    exact List.mem_set hn _)
  have hd : decide (i = -1) = false := by simpa using hi
  simp only [uniOk, hd, Bool.false_or, Bool.and_eq_true] at h1
  exact h1.2.1.2

set_option maxRecDepth 100000 in
theorem isUnitNumber_any (T Z : Int) (A : Option Addr) (N cp : Nat) (un : Int) (w : World) :
    Calls Tryz.prog 52 #[sv T Z (.slice A N cp), .int .i64 un] w fun e w' => e = .returned (.bool (inB un N)) ∧ Kp w w' := by
  by_cases h1 : 0 ≤ un
  · by_cases h2 : un < N
    · go_enter Tryz.func52, Tryz.ntmps52
      go_wp2_with fail
      go_ret
      exact ⟨ret_bool (by simp [inB, h1, h2]), (Kp.refl w).alloc _⟩
    · have d2 : decide (un < (N : Int)) = false := by simpa using h2
      go_enter Tryz.func52, Tryz.ntmps52
      go_wp2_with fail
      go_ret
      exact ⟨ret_bool (by simp [inB]; omega), (Kp.refl w).alloc _⟩
  · have d1 : decide (0 ≤ un) = false := by simpa using h1
    go_enter Tryz.func52, Tryz.ntmps52
    go_wp2_with fail
    go_ret
    exact ⟨ret_bool (by simp [inB]; omega), (Kp.refl w).alloc _⟩

set_option maxRecDepth 100000 in
set_option maxHeartbeats 4000000 in
theorem placeUnitP_any (At Ak : Option Addr) (nt nk ct ck : Nat) (l : List Ter) (m : List Knd) (a b c d e W H : Int) (x r y : Value) (lt lr ld : List Int) (T Z : Int) (g off N cp : Nat) (us : List Uni) (un i : Int) (w : World) (hs : Spans w) (ht : Tab w) (hu : SpU w) (hB : BrdAt w At Ak nt nk l m x r y lt lr ld) (hS : StaAt w (.slice (some ⟨g, off, none⟩) N cp) us) (hN : us.length = N) (hI : isI64 i) :
    Calls Tryz.prog 24 #[bv (.slice At nt ct) (.slice Ak nk ck) a b c d e W H x r y, sv T Z (.slice (some ⟨g, off, none⟩) N cp), .int .i64 un, .int .i64 i] w (StPost (((brdOk ⟨l, m, a, b, c, d, e⟩ W H lt lr ld && staOk ⟨l, m, a, b, c, d, e⟩ W H lt T Z us) && inB un us.length) && staOk ⟨l, m, a, b, c, d, e⟩ W H lt T Z (plU us un.toNat i)) T Z (plU us un.toNat i) w) := by
  have KA : Kp w (((w.alloc (.cells #[.slice At nt ct, .slice Ak nk ck, .int .i64 a, .int .i64 b, .int .i64 c, .int .i64 d, .int .i64 e, .int .i64 W, .int .i64 H, x, r, y] 44)).alloc (.cells #[.int .i64 T, .int .i64 Z, .slice (some ⟨g, off, none⟩) N cp] 48)).alloc (.cells #[.int .i64 0, .int .i64 0, .slice none 0 0] 48)) := (((Kp.refl w).alloc _).alloc _).alloc _
  have s0 : (((w.alloc (.cells #[.slice At nt ct, .slice Ak nk ck, .int .i64 a, .int .i64 b, .int .i64 c, .int .i64 d, .int .i64 e, .int .i64 W, .int .i64 H, x, r, y] 44)).alloc (.cells #[.int .i64 T, .int .i64 Z, .slice (some ⟨g, off, none⟩) N cp] 48)).alloc (.cells #[.int .i64 0, .int .i64 0, .slice none 0 0] 48)).cell? ⟨w.heap.size, 0, none⟩ = some (.slice At nt ct) ∧ (((w.alloc (.cells #[.slice At nt ct, .slice Ak nk ck, .int .i64 a, .int .i64 b, .int .i64 c, .int .i64 d, .int .i64 e, .int .i64 W, .int .i64 H, x, r, y] 44)).alloc (.cells #[.int .i64 T, .int .i64 Z, .slice (some ⟨g, off, none⟩) N cp] 48)).alloc (.cells #[.int .i64 0, .int .i64 0, .slice none 0 0] 48)).cell? ⟨w.heap.size, 1, none⟩ = some (.slice Ak nk ck) ∧ (((w.alloc (.cells #[.slice At nt ct, .slice Ak nk ck, .int .i64 a, .int .i64 b, .int .i64 c, .int .i64 d, .int .i64 e, .int .i64 W, .int .i64 H, x, r, y] 44)).alloc (.cells #[.int .i64 T, .int .i64 Z, .slice (some ⟨g, off, none⟩) N cp] 48)).alloc (.cells #[.int .i64 0, .int .i64 0, .slice none 0 0] 48)).cell? ⟨w.heap.size, 2, none⟩ = some (.int .i64 a) ∧ (((w.alloc (.cells #[.slice At nt ct, .slice Ak nk ck, .int .i64 a, .int .i64 b, .int .i64 c, .int .i64 d, .int .i64 e, .int .i64 W, .int .i64 H, x, r, y] 44)).alloc (.cells #[.int .i64 T, .int .i64 Z, .slice (some ⟨g, off, none⟩) N cp] 48)).alloc (.cells #[.int .i64 0, .int .i64 0, .slice none 0 0] 48)).cell? ⟨w.heap.size, 3, none⟩ = some (.int .i64 b) ∧ (((w.alloc (.cells #[.slice At nt ct, .slice Ak nk ck, .int .i64 a, .int .i64 b, .int .i64 c, .int .i64 d, .int .i64 e, .int .i64 W, .int .i64 H, x, r, y] 44)).alloc (.cells #[.int .i64 T, .int .i64 Z, .slice (some ⟨g, off, none⟩) N cp] 48)).alloc (.cells #[.int .i64 0, .int .i64 0, .slice none 0 0] 48)).cell? ⟨w.heap.size, 4, none⟩ = some (.int .i64 c) ∧ (((w.alloc (.cells #[.slice At nt ct, .slice Ak nk ck, .int .i64 a, .int .i64 b, .int .i64 c, .int .i64 d, .int .i64 e, .int .i64 W, .int .i64 H, x, r, y] 44)).alloc (.cells #[.int .i64 T, .int .i64 Z, .slice (some ⟨g, off, none⟩) N cp] 48)).alloc (.cells #[.int .i64 0, .int .i64 0, .slice none 0 0] 48)).cell? ⟨w.heap.size, 5, none⟩ = some (.int .i64 d) ∧ (((w.alloc (.cells #[.slice At nt ct, .slice Ak nk ck, .int .i64 a, .int .i64 b, .int .i64 c, .int .i64 d, .int .i64 e, .int .i64 W, .int .i64 H, x, r, y] 44)).alloc (.cells #[.int .i64 T, .int .i64 Z, .slice (some ⟨g, off, none⟩) N cp] 48)).alloc (.cells #[.int .i64 0, .int .i64 0, .slice none 0 0] 48)).cell? ⟨w.heap.size, 6, none⟩ = some (.int .i64 e) ∧ (((w.alloc (.cells #[.slice At nt ct, .slice Ak nk ck, .int .i64 a, .int .i64 b, .int .i64 c, .int .i64 d, .int .i64 e, .int .i64 W, .int .i64 H, x, r, y] 44)).alloc (.cells #[.int .i64 T, .int .i64 Z, .slice (some ⟨g, off, none⟩) N cp] 48)).alloc (.cells #[.int .i64 0, .int .i64 0, .slice none 0 0] 48)).cell? ⟨w.heap.size, 7, none⟩ = some (.int .i64 W) ∧ (((w.alloc (.cells #[.slice At nt ct, .slice Ak nk ck, .int .i64 a, .int .i64 b, .int .i64 c, .int .i64 d, .int .i64 e, .int .i64 W, .int .i64 H, x, r, y] 44)).alloc (.cells #[.int .i64 T, .int .i64 Z, .slice (some ⟨g, off, none⟩) N cp] 48)).alloc (.cells #[.int .i64 0, .int .i64 0, .slice none 0 0] 48)).cell? ⟨w.heap.size, 8, none⟩ = some (.int .i64 H) ∧ (((w.alloc (.cells #[.slice At nt ct, .slice Ak nk ck, .int .i64 a, .int .i64 b, .int .i64 c, .int .i64 d, .int .i64 e, .int .i64 W, .int .i64 H, x, r, y] 44)).alloc (.cells #[.int .i64 T, .int .i64 Z, .slice (some ⟨g, off, none⟩) N cp] 48)).alloc (.cells #[.int .i64 0, .int .i64 0, .slice none 0 0] 48)).cell? ⟨w.heap.size, 9, none⟩ = some (x) ∧ (((w.alloc (.cells #[.slice At nt ct, .slice Ak nk ck, .int .i64 a, .int .i64 b, .int .i64 c, .int .i64 d, .int .i64 e, .int .i64 W, .int .i64 H, x, r, y] 44)).alloc (.cells #[.int .i64 T, .int .i64 Z, .slice (some ⟨g, off, none⟩) N cp] 48)).alloc (.cells #[.int .i64 0, .int .i64 0, .slice none 0 0] 48)).cell? ⟨w.heap.size, 10, none⟩ = some (r) ∧ (((w.alloc (.cells #[.slice At nt ct, .slice Ak nk ck, .int .i64 a, .int .i64 b, .int .i64 c, .int .i64 d, .int .i64 e, .int .i64 W, .int .i64 H, x, r, y] 44)).alloc (.cells #[.int .i64 T, .int .i64 Z, .slice (some ⟨g, off, none⟩) N cp] 48)).alloc (.cells #[.int .i64 0, .int .i64 0, .slice none 0 0] 48)).cell? ⟨w.heap.size, 11, none⟩ = some (y) ∧ (((w.alloc (.cells #[.slice At nt ct, .slice Ak nk ck, .int .i64 a, .int .i64 b, .int .i64 c, .int .i64 d, .int .i64 e, .int .i64 W, .int .i64 H, x, r, y] 44)).alloc (.cells #[.int .i64 T, .int .i64 Z, .slice (some ⟨g, off, none⟩) N cp] 48)).alloc (.cells #[.int .i64 0, .int .i64 0, .slice none 0 0] 48)).cell? ⟨w.heap.size + 1, 0, none⟩ = some (.int .i64 T) ∧ (((w.alloc (.cells #[.slice At nt ct, .slice Ak nk ck, .int .i64 a, .int .i64 b, .int .i64 c, .int .i64 d, .int .i64 e, .int .i64 W, .int .i64 H, x, r, y] 44)).alloc (.cells #[.int .i64 T, .int .i64 Z, .slice (some ⟨g, off, none⟩) N cp] 48)).alloc (.cells #[.int .i64 0, .int .i64 0, .slice none 0 0] 48)).cell? ⟨w.heap.size + 1, 1, none⟩ = some (.int .i64 Z) ∧ (((w.alloc (.cells #[.slice At nt ct, .slice Ak nk ck, .int .i64 a, .int .i64 b, .int .i64 c, .int .i64 d, .int .i64 e, .int .i64 W, .int .i64 H, x, r, y] 44)).alloc (.cells #[.int .i64 T, .int .i64 Z, .slice (some ⟨g, off, none⟩) N cp] 48)).alloc (.cells #[.int .i64 0, .int .i64 0, .slice none 0 0] 48)).cell? ⟨w.heap.size + 1, 2, none⟩ = some (.slice (some ⟨g, off, none⟩) N cp) ∧ Kp w (((w.alloc (.cells #[.slice At nt ct, .slice Ak nk ck, .int .i64 a, .int .i64 b, .int .i64 c, .int .i64 d, .int .i64 e, .int .i64 W, .int .i64 H, x, r, y] 44)).alloc (.cells #[.int .i64 T, .int .i64 Z, .slice (some ⟨g, off, none⟩) N cp] 48)).alloc (.cells #[.int .i64 0, .int .i64 0, .slice none 0 0] 48)) := ⟨by simp [go_sem], by simp [go_sem], by simp [go_sem], by simp [go_sem], by simp [go_sem], by simp [go_sem], by simp [go_sem], by simp [go_sem], by simp [go_sem], by simp [go_sem], by simp [go_sem], by simp [go_sem], by simp [go_sem], by simp [go_sem], by simp [go_sem], KA⟩
  have l0 : LivS (((w.alloc (.cells #[.slice At nt ct, .slice Ak nk ck, .int .i64 a, .int .i64 b, .int .i64 c, .int .i64 d, .int .i64 e, .int .i64 W, .int .i64 H, x, r, y] 44)).alloc (.cells #[.int .i64 T, .int .i64 Z, .slice (some ⟨g, off, none⟩) N cp] 48)).alloc (.cells #[.int .i64 0, .int .i64 0, .slice none 0 0] 48)) (w.heap.size + 1 + 1) (.int .i64 0) (.int .i64 0) (.slice none 0 0) := ⟨by simp [go_sem], by simp [go_sem], by simp [go_sem]⟩
  have C1 := Lib.hid (isStateOn_any At Ak nt nk ct ck l m a b c d e W H x r y lt lr ld T Z (.slice (some ⟨g, off, none⟩) N cp) us _ (hs.keep KA) (ht.keep KA) (hu.keep KA) (hB.keep KA) (hS.keep KA))
  have HS := Lib.hid hS
  have HB := Lib.hid hB
  have HU := Lib.hid hu
  rw [hN]
  cases ho : brdOk ⟨l, m, a, b, c, d, e⟩ W H lt lr ld && staOk ⟨l, m, a, b, c, d, e⟩ W H lt T Z us
  · rw [ho] at C1
    rw [Bool.false_and, Bool.false_and]
    clear hs ht hu hB hS ho
    go_enter Tryz.func24, Tryz.ntmps24
    go_wp2_with fail
    refine C1.out.mono ?_
    rintro e1 w1 ⟨rfl, k1⟩
    have l1 := livS_keep k1 l0
    have K1 := KA.trans k1
    clear s0 l0
    go_wp2_with fail
    exact bodyPost_ret (v := .tuple #[sv 0 0 (.slice none 0 0), .bool false]) (by simp [results, Tryz.results24, go_sem, *]) rfl (StPost.no (((K1.setCell (by simp <;> omega) _).setCell (by simp <;> omega) _).setCell (by simp <;> omega) _))
  rw [ho] at C1
  rw [Bool.true_and]
  have CN : Hid (∀ w, Calls Tryz.prog 52 #[sv T Z (.slice (some ⟨g, off, none⟩) N cp), .int .i64 un] w fun e w' => e = .returned (.bool (inB un N)) ∧ Kp w w') := Lib.hid fun w => isUnitNumber_any T Z _ N cp un w
  cases hin : inB un N
  · rw [hin] at CN
    rw [Bool.false_and]
    clear hs ht hu hB hS ho hin
    go_enter Tryz.func24, Tryz.ntmps24
    go_wp2_with fail
    refine C1.out.mono ?_
    rintro e1 w1 ⟨rfl, k1⟩
    have s1 := keepp15 k1 s0
    have l1 := livS_keep k1 l0
    clear s0 l0
    go_wp2_with fail
    refine (CN.out _).mono ?_
    rintro e2 w2 ⟨rfl, k2⟩
    have l2 := livS_keep k2 l1
    have K2 := s1.2.2.2.2.2.2.2.2.2.2.2.2.2.2.2.trans k2
    clear s1 l1
    go_wp2_with fail
    exact bodyPost_ret (v := .tuple #[sv 0 0 (.slice none 0 0), .bool false]) (by simp [results, Tryz.results24, go_sem, *]) rfl (StPost.no (((K2.setCell (by simp <;> omega) _).setCell (by simp <;> omega) _).setCell (by simp <;> omega) _))
  rw [hin] at CN
  rw [Bool.true_and]
  have hok : brdOk ⟨l, m, a, b, c, d, e⟩ W H lt lr ld = true := by
    simp only [Bool.and_eq_true] at ho
    exact ho.1
  obtain ⟨U, rfl, hU⟩ := inB_at hin
  obtain ⟨px, hx⟩ : ∃ x, us[U]? = some x := ⟨us[U]'(by omega), List.getElem?_eq_getElem _⟩
  have HX := Lib.hid hx
  have hn6 := hS.b
  rw [hN] at hn6
  have HN := Lib.hid hN
  have CC : Hid (∀ w, RdU w (.slice (some ⟨g, off, none⟩) N cp) us → Calls Tryz.prog 53 #[sv T Z (.slice (some ⟨g, off, none⟩) N cp)] w fun e w' => ∃ A' c', e = .returned (sv T Z (.slice A' N c')) ∧ OwnU w' w.heap.size (.slice A' N c') us ∧ Kp w w') := Lib.hid fun w h => copyState_any T Z g off N cp us w h hN hn6
  have CI : Hid (∀ v w, SpU w → BrdAt w At Ak nt nk l m x r y lt lr ld → StaAt w v (plU us U i) → Calls Tryz.prog 54 #[bv (.slice At nt ct) (.slice Ak nk ck) a b c d e W H x r y, sv T Z v] w fun e' w' => e' = .returned (.bool (staOk ⟨l, m, a, b, c, d, e⟩ W H lt T Z (plU us U i))) ∧ Kp w w') := Lib.hid fun v w h1 h2 h3 => isState_any At Ak nt nk ct ck l m a b c d e W H x r y lt lr ld T Z v _ w h1 h2 hok h3
  have HII := Lib.hid (UniI.place (n := U) hS.i hI)
  simp only [Int.toNat_natCast]
  have hUI : (U : Int) < N := by omega
  have hUO : ((U : Int)).toNat = U := by omega
  obtain ⟨R, hR⟩ : ∃ R, R = staOk ⟨l, m, a, b, c, d, e⟩ W H lt T Z (plU us U i) := ⟨_, rfl⟩
  rw [← hR] at CI ⊢
  clear hs ht hu hB hS ho hin hx hN hok hR
  go_enter Tryz.func24, Tryz.ntmps24
  go_wp2_with fail
  refine C1.out.mono ?_
  rintro e1 w1 ⟨rfl, k1⟩
  have s1 := keepp15 k1 s0
  have l1 := livS_keep k1 l0
  clear s0 l0 k1 KA
  go_wp2_with fail
  refine (CN.out _).mono ?_
  rintro e2 w2 ⟨rfl, k2⟩
  have s2 := keepp15 k2 s1
  have l2 := livS_keep k2 l1
  clear s1 l1 k2
  go_wp2_with fail
  refine (CC.out _ (HS.out.keep s2.2.2.2.2.2.2.2.2.2.2.2.2.2.2.2).rd).mono ?_
  rintro e3 w3 ⟨A', c', rfl, o3, k3⟩
  obtain ⟨G, rfl, hG, hNN⟩ := o3.block_at (by have := HN.out; omega)
  clear hNN
  have s3 := keepp15 k3 s2
  have l3 := livS_keep k3 l2
  have hz2 : w.heap.size + 1 + 1 < w2.heap.size := cell_lt l2.1.1
  have hG3 := (World.ownsRow.lt o3 G rfl).2
  clear s2 l2 k3
  have r3 := o3.row HN.out
  obtain ⟨v4, hv4⟩ : ∃ v, w3.cell? ⟨G, U * 4 + 2, none⟩ = some v := ⟨_, (World.ownsRow.cellAt r3 (U * 4 + 2) (by omega)).trans (List.getElem?_eq_getElem (by rw [cellsU_length]; have := HN.out; omega))⟩
  have f4 := World.ownsRow.frozenAt r3 (U * 4 + 2)
  have gs := grown_set w3 G (U * 4 + 2) (.int .i64 i)
  have O5 := Lib.hid (o3.place (i := i) HX.out)
  have hne2 : G ≠ w.heap.size := by omega
  have hne3 : G ≠ w.heap.size + 1 := by omega
  have hne4 : G ≠ w.heap.size + 1 + 1 := by omega
  have hz0 := cell_lt s3.1
  have hz1 := cell_lt s3.2.2.2.2.2.2.2.2.2.2.2.2.1
  have hz4 := cell_lt l3.1.1
  have K5 : Kp w ((w3.setCell ⟨G, U * 4 + 2, none⟩ (.int .i64 i)).alloc (.cells #[.int .i64 T, .int .i64 Z, .slice (some ⟨G, 0, none⟩) N c'] 48)) := (s3.2.2.2.2.2.2.2.2.2.2.2.2.2.2.2.setCell (by simp; omega) _).alloc _
  have kb5 : Kp (w3.setCell ⟨G, U * 4 + 2, none⟩ (.int .i64 i)) ((w3.setCell ⟨G, U * 4 + 2, none⟩ (.int .i64 i)).alloc (.cells #[.int .i64 T, .int .i64 Z, .slice (some ⟨G, 0, none⟩) N c'] 48)) := (Kp.refl _).alloc _
  have O6 := Lib.hid (O5.out.keep kb5)
  have SA := Lib.hid (StaAt.mk O6.out.rd (by rw [plU_len, HN.out]; exact hn6) HII.out)
  have l5 : LivS ((w3.setCell ⟨G, U * 4 + 2, none⟩ (.int .i64 i)).alloc (.cells #[.int .i64 T, .int .i64 Z, .slice (some ⟨G, 0, none⟩) N c'] 48)) (w.heap.size + 1 + 1) (.int .i64 0) (.int .i64 0) (.slice none 0 0) := ⟨by simp [go_sem, *], by simp [go_sem, *], by simp [go_sem, *]⟩
  have m5 : LivS ((w3.setCell ⟨G, U * 4 + 2, none⟩ (.int .i64 i)).alloc (.cells #[.int .i64 T, .int .i64 Z, .slice (some ⟨G, 0, none⟩) N c'] 48)) w3.heap.size (.int .i64 T) (.int .i64 Z) (.slice (some ⟨G, 0, none⟩) N c') := ⟨by simp [go_sem], by simp [go_sem], by simp [go_sem]⟩
  have CX := Lib.hid (CI.out _ _ (HU.out.keep K5) (HB.out.keep K5) SA.out)
  clear O5 gs r3 kb5
  cases R
  · go_wp2_with fail
    refine CX.out.mono ?_
    rintro e6 w6 ⟨rfl, k6⟩
    have l6 := livS_keep k6 l5
    have K6 := K5.trans k6
    clear s3 l3 l5 m5 k6 hv4 f4
    go_wp2_with fail
    exact bodyPost_ret (v := .tuple #[sv 0 0 (.slice none 0 0), .bool false]) (by simp [results, Tryz.results24, go_sem, *]) rfl (StPost.no (((K6.setCell (by simp <;> omega) _).setCell (by simp <;> omega) _).setCell (by simp <;> omega) _))
  · go_wp2_with fail
    refine CX.out.mono ?_
    rintro e6 w6 ⟨rfl, k6⟩
    have l6 := livS_keep k6 l5
    have m6 := livS_keep k6 m5
    have K6 := K5.trans k6
    have O7 := Lib.hid (O6.out.keep k6)
    have hz6 := cell_lt l6.1.1
    clear s3 l3 l5 m5 k6 hv4 f4
    go_wp2_with fail
    refine bodyPost_ret (v := .tuple #[sv T Z (.slice (some ⟨G, 0, none⟩) N c'), .bool true]) (by simp [results, Tryz.results24, go_sem, *]) rfl ⟨_, rfl, ?_, ?_⟩
    · have n2 := O7.out.not (g := w.heap.size + 1 + 1) (by omega)
      exact (((O7.out.far n2 _).far n2 _).far n2 _).base (by omega)
    · exact ((K6.setCell (by simp <;> omega) _).setCell (by simp <;> omega) _).setCell (by simp <;> omega) _

end Go.Proofs.YtiaahpcfciomlaaGreatDoor
