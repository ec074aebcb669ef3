/-
  The law on MirrorBoard holds at every argument: the program's answer is the reference's, in memory of its own, and the argument reads as before. The named variables hold what the program's text lays (the card ties them).
-/
import Derived.Test.YtmolpkjdjkhnpaaGreatDoorMkL
import Derived.Test.YtmolpkjdjkhnpaaGreatDoorQc
import Derived.Test.YtmolpkjdjkhnpaaGreatDoorQd
namespace Go.Proofs.YtmolpkjdjkhnpaaGreatDoor.mirrorBoardLaw
open Go.ChangeShapes Go.WideShapes Go.ChangeAt Go.RowKit Go.Joins

theorem keep12k {W0 w w1 : World} {p0 p1 p2 p3 p4 p5 p6 p7 p8 p9 p10 p11 : Addr} {v0 v1 v2 v3 v4 v5 v6 v7 v8 v9 v10 v11 : Value} (k : Kp w w1) (h : w.cell? p0 = some v0 ∧ w.cell? p1 = some v1 ∧ w.cell? p2 = some v2 ∧ w.cell? p3 = some v3 ∧ w.cell? p4 = some v4 ∧ w.cell? p5 = some v5 ∧ w.cell? p6 = some v6 ∧ w.cell? p7 = some v7 ∧ w.cell? p8 = some v8 ∧ w.cell? p9 = some v9 ∧ w.cell? p10 = some v10 ∧ w.cell? p11 = some v11 ∧ Kp W0 w) : w1.cell? p0 = some v0 ∧ w1.cell? p1 = some v1 ∧ w1.cell? p2 = some v2 ∧ w1.cell? p3 = some v3 ∧ w1.cell? p4 = some v4 ∧ w1.cell? p5 = some v5 ∧ w1.cell? p6 = some v6 ∧ w1.cell? p7 = some v7 ∧ w1.cell? p8 = some v8 ∧ w1.cell? p9 = some v9 ∧ w1.cell? p10 = some v10 ∧ w1.cell? p11 = some v11 ∧ Kp W0 w1 :=
  ⟨k.cell h.1, k.cell h.2.1, k.cell h.2.2.1, k.cell h.2.2.2.1, k.cell h.2.2.2.2.1, k.cell h.2.2.2.2.2.1, k.cell h.2.2.2.2.2.2.1, k.cell h.2.2.2.2.2.2.2.1, k.cell h.2.2.2.2.2.2.2.2.1, k.cell h.2.2.2.2.2.2.2.2.2.1, k.cell h.2.2.2.2.2.2.2.2.2.2.1, k.cell h.2.2.2.2.2.2.2.2.2.2.2.1, h.2.2.2.2.2.2.2.2.2.2.2.2.trans k⟩
theorem drew12k {W0 w : World} {p0 p1 p2 p3 p4 p5 p6 p7 p8 p9 p10 p11 : Addr} {v0 v1 v2 v3 v4 v5 v6 v7 v8 v9 v10 v11 : Value} (h : w.cell? p0 = some v0 ∧ w.cell? p1 = some v1 ∧ w.cell? p2 = some v2 ∧ w.cell? p3 = some v3 ∧ w.cell? p4 = some v4 ∧ w.cell? p5 = some v5 ∧ w.cell? p6 = some v6 ∧ w.cell? p7 = some v7 ∧ w.cell? p8 = some v8 ∧ w.cell? p9 = some v9 ∧ w.cell? p10 = some v10 ∧ w.cell? p11 = some v11 ∧ Kp W0 w) : w.drew.cell? p0 = some v0 ∧ w.drew.cell? p1 = some v1 ∧ w.drew.cell? p2 = some v2 ∧ w.drew.cell? p3 = some v3 ∧ w.drew.cell? p4 = some v4 ∧ w.drew.cell? p5 = some v5 ∧ w.drew.cell? p6 = some v6 ∧ w.drew.cell? p7 = some v7 ∧ w.drew.cell? p8 = some v8 ∧ w.drew.cell? p9 = some v9 ∧ w.drew.cell? p10 = some v10 ∧ w.drew.cell? p11 = some v11 ∧ Kp W0 w.drew :=
  ⟨h.1, h.2.1, h.2.2.1, h.2.2.2.1, h.2.2.2.2.1, h.2.2.2.2.2.1, h.2.2.2.2.2.2.1, h.2.2.2.2.2.2.2.1, h.2.2.2.2.2.2.2.2.1, h.2.2.2.2.2.2.2.2.2.1, h.2.2.2.2.2.2.2.2.2.2.1, h.2.2.2.2.2.2.2.2.2.2.2.1, h.2.2.2.2.2.2.2.2.2.2.2.2.drew⟩
theorem keep24k {W0 w w1 : World} {p0 p1 p2 p3 p4 p5 p6 p7 p8 p9 p10 p11 p12 p13 p14 p15 p16 p17 p18 p19 p20 p21 p22 p23 : Addr} {v0 v1 v2 v3 v4 v5 v6 v7 v8 v9 v10 v11 v12 v13 v14 v15 v16 v17 v18 v19 v20 v21 v22 v23 : Value} (k : Kp w w1) (h : w.cell? p0 = some v0 ∧ w.cell? p1 = some v1 ∧ w.cell? p2 = some v2 ∧ w.cell? p3 = some v3 ∧ w.cell? p4 = some v4 ∧ w.cell? p5 = some v5 ∧ w.cell? p6 = some v6 ∧ w.cell? p7 = some v7 ∧ w.cell? p8 = some v8 ∧ w.cell? p9 = some v9 ∧ w.cell? p10 = some v10 ∧ w.cell? p11 = some v11 ∧ w.cell? p12 = some v12 ∧ w.cell? p13 = some v13 ∧ w.cell? p14 = some v14 ∧ w.cell? p15 = some v15 ∧ w.cell? p16 = some v16 ∧ w.cell? p17 = some v17 ∧ w.cell? p18 = some v18 ∧ w.cell? p19 = some v19 ∧ w.cell? p20 = some v20 ∧ w.cell? p21 = some v21 ∧ w.cell? p22 = some v22 ∧ w.cell? p23 = some v23 ∧ Kp W0 w) : w1.cell? p0 = some v0 ∧ w1.cell? p1 = some v1 ∧ w1.cell? p2 = some v2 ∧ w1.cell? p3 = some v3 ∧ w1.cell? p4 = some v4 ∧ w1.cell? p5 = some v5 ∧ w1.cell? p6 = some v6 ∧ w1.cell? p7 = some v7 ∧ w1.cell? p8 = some v8 ∧ w1.cell? p9 = some v9 ∧ w1.cell? p10 = some v10 ∧ w1.cell? p11 = some v11 ∧ w1.cell? p12 = some v12 ∧ w1.cell? p13 = some v13 ∧ w1.cell? p14 = some v14 ∧ w1.cell? p15 = some v15 ∧ w1.cell? p16 = some v16 ∧ w1.cell? p17 = some v17 ∧ w1.cell? p18 = some v18 ∧ w1.cell? p19 = some v19 ∧ w1.cell? p20 = some v20 ∧ w1.cell? p21 = some v21 ∧ w1.cell? p22 = some v22 ∧ w1.cell? p23 = some v23 ∧ Kp W0 w1 :=
  ⟨k.cell h.1, k.cell h.2.1, k.cell h.2.2.1, k.cell h.2.2.2.1, k.cell h.2.2.2.2.1, k.cell h.2.2.2.2.2.1, k.cell h.2.2.2.2.2.2.1, k.cell h.2.2.2.2.2.2.2.1, k.cell h.2.2.2.2.2.2.2.2.1, k.cell h.2.2.2.2.2.2.2.2.2.1, k.cell h.2.2.2.2.2.2.2.2.2.2.1, k.cell h.2.2.2.2.2.2.2.2.2.2.2.1, k.cell h.2.2.2.2.2.2.2.2.2.2.2.2.1, k.cell h.2.2.2.2.2.2.2.2.2.2.2.2.2.1, k.cell h.2.2.2.2.2.2.2.2.2.2.2.2.2.2.1, k.cell h.2.2.2.2.2.2.2.2.2.2.2.2.2.2.2.1, k.cell h.2.2.2.2.2.2.2.2.2.2.2.2.2.2.2.2.1, k.cell h.2.2.2.2.2.2.2.2.2.2.2.2.2.2.2.2.2.1, k.cell h.2.2.2.2.2.2.2.2.2.2.2.2.2.2.2.2.2.2.1, k.cell h.2.2.2.2.2.2.2.2.2.2.2.2.2.2.2.2.2.2.2.1, k.cell h.2.2.2.2.2.2.2.2.2.2.2.2.2.2.2.2.2.2.2.2.1, k.cell h.2.2.2.2.2.2.2.2.2.2.2.2.2.2.2.2.2.2.2.2.2.1, k.cell h.2.2.2.2.2.2.2.2.2.2.2.2.2.2.2.2.2.2.2.2.2.2.1, k.cell h.2.2.2.2.2.2.2.2.2.2.2.2.2.2.2.2.2.2.2.2.2.2.2.1, h.2.2.2.2.2.2.2.2.2.2.2.2.2.2.2.2.2.2.2.2.2.2.2.2.trans k⟩
theorem drew24k {W0 w : World} {p0 p1 p2 p3 p4 p5 p6 p7 p8 p9 p10 p11 p12 p13 p14 p15 p16 p17 p18 p19 p20 p21 p22 p23 : Addr} {v0 v1 v2 v3 v4 v5 v6 v7 v8 v9 v10 v11 v12 v13 v14 v15 v16 v17 v18 v19 v20 v21 v22 v23 : Value} (h : w.cell? p0 = some v0 ∧ w.cell? p1 = some v1 ∧ w.cell? p2 = some v2 ∧ w.cell? p3 = some v3 ∧ w.cell? p4 = some v4 ∧ w.cell? p5 = some v5 ∧ w.cell? p6 = some v6 ∧ w.cell? p7 = some v7 ∧ w.cell? p8 = some v8 ∧ w.cell? p9 = some v9 ∧ w.cell? p10 = some v10 ∧ w.cell? p11 = some v11 ∧ w.cell? p12 = some v12 ∧ w.cell? p13 = some v13 ∧ w.cell? p14 = some v14 ∧ w.cell? p15 = some v15 ∧ w.cell? p16 = some v16 ∧ w.cell? p17 = some v17 ∧ w.cell? p18 = some v18 ∧ w.cell? p19 = some v19 ∧ w.cell? p20 = some v20 ∧ w.cell? p21 = some v21 ∧ w.cell? p22 = some v22 ∧ w.cell? p23 = some v23 ∧ Kp W0 w) : w.drew.cell? p0 = some v0 ∧ w.drew.cell? p1 = some v1 ∧ w.drew.cell? p2 = some v2 ∧ w.drew.cell? p3 = some v3 ∧ w.drew.cell? p4 = some v4 ∧ w.drew.cell? p5 = some v5 ∧ w.drew.cell? p6 = some v6 ∧ w.drew.cell? p7 = some v7 ∧ w.drew.cell? p8 = some v8 ∧ w.drew.cell? p9 = some v9 ∧ w.drew.cell? p10 = some v10 ∧ w.drew.cell? p11 = some v11 ∧ w.drew.cell? p12 = some v12 ∧ w.drew.cell? p13 = some v13 ∧ w.drew.cell? p14 = some v14 ∧ w.drew.cell? p15 = some v15 ∧ w.drew.cell? p16 = some v16 ∧ w.drew.cell? p17 = some v17 ∧ w.drew.cell? p18 = some v18 ∧ w.drew.cell? p19 = some v19 ∧ w.drew.cell? p20 = some v20 ∧ w.drew.cell? p21 = some v21 ∧ w.drew.cell? p22 = some v22 ∧ w.drew.cell? p23 = some v23 ∧ Kp W0 w.drew :=
  ⟨h.1, h.2.1, h.2.2.1, h.2.2.2.1, h.2.2.2.2.1, h.2.2.2.2.2.1, h.2.2.2.2.2.2.1, h.2.2.2.2.2.2.2.1, h.2.2.2.2.2.2.2.2.1, h.2.2.2.2.2.2.2.2.2.1, h.2.2.2.2.2.2.2.2.2.2.1, h.2.2.2.2.2.2.2.2.2.2.2.1, h.2.2.2.2.2.2.2.2.2.2.2.2.1, h.2.2.2.2.2.2.2.2.2.2.2.2.2.1, h.2.2.2.2.2.2.2.2.2.2.2.2.2.2.1, h.2.2.2.2.2.2.2.2.2.2.2.2.2.2.2.1, h.2.2.2.2.2.2.2.2.2.2.2.2.2.2.2.2.1, h.2.2.2.2.2.2.2.2.2.2.2.2.2.2.2.2.2.1, h.2.2.2.2.2.2.2.2.2.2.2.2.2.2.2.2.2.2.1, h.2.2.2.2.2.2.2.2.2.2.2.2.2.2.2.2.2.2.2.1, h.2.2.2.2.2.2.2.2.2.2.2.2.2.2.2.2.2.2.2.2.1, h.2.2.2.2.2.2.2.2.2.2.2.2.2.2.2.2.2.2.2.2.2.1, h.2.2.2.2.2.2.2.2.2.2.2.2.2.2.2.2.2.2.2.2.2.2.1, h.2.2.2.2.2.2.2.2.2.2.2.2.2.2.2.2.2.2.2.2.2.2.2.1, h.2.2.2.2.2.2.2.2.2.2.2.2.2.2.2.2.2.2.2.2.2.2.2.2.drew⟩

theorem brd_zero (w : World) : BrdAt w none none 0 0 [] [] (.slice none 0 0) (.slice none 0 0) (.slice none 0 0) [] [] [] :=
  ⟨⟨⟨rfl, fun h => absurd h (by decide)⟩, ⟨rfl, fun h => absurd h (by decide)⟩, by decide, by decide, (fun x hx => by cases hx), (fun x hx => by cases hx)⟩, ⟨⟨none, 0, rfl, fun h => absurd h (by decide)⟩, ⟨none, 0, rfl, fun h => absurd h (by decide)⟩, ⟨none, 0, rfl, fun h => absurd h (by decide)⟩, by decide, by decide, by decide, (fun x hx => by cases hx), (fun x hx => by cases hx), (fun x hx => by cases hx)⟩⟩

set_option maxRecDepth 100000 in
set_option maxHeartbeats 4000000 in
theorem specMirrorBoard_no (gt gk nt nk ct ck : Nat) (l : List Ter) (m : List Knd) (a b c d e W H : Int) (x r y : Value) (lt lr ld : List Int) (w : World) (hB : BrdAt w (some ⟨gt, 0, none⟩) (some ⟨gk, 0, none⟩) nt nk l m x r y lt lr ld) (hok : brdOk ⟨l, m, a, b, c, d, e⟩ W H lt lr ld = false) :
    Calls Tryz.prog 5 #[bv (.slice (some ⟨gt, 0, none⟩) nt ct) (.slice (some ⟨gk, 0, none⟩) nk ck) a b c d e W H x r y] w fun e9 w' => e9 = .returned (.tuple #[bv (.slice none 0 0) (.slice none 0 0) 0 0 0 0 0 0 0 (.slice none 0 0) (.slice none 0 0) (.slice none 0 0), .bool false]) ∧ Kp w w' := by
  have k0 : Kp w ((w.alloc (.cells #[.slice (some ⟨gt, 0, none⟩) nt ct, .slice (some ⟨gk, 0, none⟩) nk ck, .int .i64 a, .int .i64 b, .int .i64 c, .int .i64 d, .int .i64 e, .int .i64 W, .int .i64 H, x, r, y] 38)).alloc (.cells #[.slice none 0 0, .slice none 0 0, .int .i64 0, .int .i64 0, .int .i64 0, .int .i64 0, .int .i64 0, .int .i64 0, .int .i64 0, .slice none 0 0, .slice none 0 0, .slice none 0 0] 38)) := ((Kp.refl w).alloc _).alloc _
  have L0 : Live12 ((w.alloc (.cells #[.slice (some ⟨gt, 0, none⟩) nt ct, .slice (some ⟨gk, 0, none⟩) nk ck, .int .i64 a, .int .i64 b, .int .i64 c, .int .i64 d, .int .i64 e, .int .i64 W, .int .i64 H, x, r, y] 38)).alloc (.cells #[.slice none 0 0, .slice none 0 0, .int .i64 0, .int .i64 0, .int .i64 0, .int .i64 0, .int .i64 0, .int .i64 0, .int .i64 0, .slice none 0 0, .slice none 0 0, .slice none 0 0] 38)) (w.heap.size + 1) (.slice none 0 0) (.slice none 0 0) (.int .i64 0) (.int .i64 0) (.int .i64 0) (.int .i64 0) (.int .i64 0) (.int .i64 0) (.int .i64 0) (.slice none 0 0) (.slice none 0 0) (.slice none 0 0) := ⟨by simp [go_sem], by simp [go_sem], by simp [go_sem], by simp [go_sem], by simp [go_sem], by simp [go_sem], by simp [go_sem], by simp [go_sem], by simp [go_sem], by simp [go_sem], by simp [go_sem], by simp [go_sem]⟩
  have C1 : Hid (Calls Tryz.prog 13 #[bv (.slice (some ⟨gt, 0, none⟩) nt ct) (.slice (some ⟨gk, 0, none⟩) nk ck) a b c d e W H x r y] ((w.alloc (.cells #[.slice (some ⟨gt, 0, none⟩) nt ct, .slice (some ⟨gk, 0, none⟩) nk ck, .int .i64 a, .int .i64 b, .int .i64 c, .int .i64 d, .int .i64 e, .int .i64 W, .int .i64 H, x, r, y] 38)).alloc (.cells #[.slice none 0 0, .slice none 0 0, .int .i64 0, .int .i64 0, .int .i64 0, .int .i64 0, .int .i64 0, .int .i64 0, .int .i64 0, .slice none 0 0, .slice none 0 0, .slice none 0 0] 38)) fun e9 w' => e9 = .returned (.bool false) ∧ Kp ((w.alloc (.cells #[.slice (some ⟨gt, 0, none⟩) nt ct, .slice (some ⟨gk, 0, none⟩) nk ck, .int .i64 a, .int .i64 b, .int .i64 c, .int .i64 d, .int .i64 e, .int .i64 W, .int .i64 H, x, r, y] 38)).alloc (.cells #[.slice none 0 0, .slice none 0 0, .int .i64 0, .int .i64 0, .int .i64 0, .int .i64 0, .int .i64 0, .int .i64 0, .int .i64 0, .slice none 0 0, .slice none 0 0, .slice none 0 0] 38)) w') := Lib.hid (by
    have := bGood_any (some ⟨gt, 0, none⟩) (some ⟨gk, 0, none⟩) nt nk ct ck l m a b c d e W H x r y lt lr ld ((w.alloc (.cells #[.slice (some ⟨gt, 0, none⟩) nt ct, .slice (some ⟨gk, 0, none⟩) nk ck, .int .i64 a, .int .i64 b, .int .i64 c, .int .i64 d, .int .i64 e, .int .i64 W, .int .i64 H, x, r, y] 38)).alloc (.cells #[.slice none 0 0, .slice none 0 0, .int .i64 0, .int .i64 0, .int .i64 0, .int .i64 0, .int .i64 0, .int .i64 0, .int .i64 0, .slice none 0 0, .slice none 0 0, .slice none 0 0] 38)) (hB.keep k0)
    rw [hok] at this
    exact this)
  clear hB hok
  go_enter Tryz.func5, Tryz.ntmps5
  go_wp2_with fail
  refine C1.out.mono ?_
  rintro e1 w1 ⟨rfl, k1⟩
  have L1 := live12_keep k1 L0
  have K1 : Kp w w1 := k0.trans k1
  clear k0 k1 L0 C1
  go_wp2_with fail
  refine bodyPost_ret (v := .tuple #[bv (.slice none 0 0) (.slice none 0 0) 0 0 0 0 0 0 0 (.slice none 0 0) (.slice none 0 0) (.slice none 0 0), .bool false]) (by simp [results, Tryz.results5, go_sem, *]) rfl ⟨rfl, ?_⟩
  exact ((((((((((((K1.setCell (show w.heap.size ≤ w.heap.size + 1 by omega) _).setCell (show w.heap.size ≤ w.heap.size + 1 by omega) _).setCell (show w.heap.size ≤ w.heap.size + 1 by omega) _).setCell (show w.heap.size ≤ w.heap.size + 1 by omega) _).setCell (show w.heap.size ≤ w.heap.size + 1 by omega) _).setCell (show w.heap.size ≤ w.heap.size + 1 by omega) _).setCell (show w.heap.size ≤ w.heap.size + 1 by omega) _).setCell (show w.heap.size ≤ w.heap.size + 1 by omega) _).setCell (show w.heap.size ≤ w.heap.size + 1 by omega) _).setCell (show w.heap.size ≤ w.heap.size + 1 by omega) _).setCell (show w.heap.size ≤ w.heap.size + 1 by omega) _).setCell (show w.heap.size ≤ w.heap.size + 1 by omega) _)

set_option maxRecDepth 100000 in
set_option maxHeartbeats 4000000 in
theorem implMirrorBoard_no (gt gk nt nk ct ck : Nat) (l : List Ter) (m : List Knd) (a b c d e W H : Int) (x r y : Value) (lt lr ld : List Int) (w : World) (hs : Spans w) (ht : Tab w) (hB : BrdAt w (some ⟨gt, 0, none⟩) (some ⟨gk, 0, none⟩) nt nk l m x r y lt lr ld) (hok : brdOk ⟨l, m, a, b, c, d, e⟩ W H lt lr ld = false) :
    Calls Tryz.prog 7 #[bv (.slice (some ⟨gt, 0, none⟩) nt ct) (.slice (some ⟨gk, 0, none⟩) nk ck) a b c d e W H x r y] w fun e9 w' => e9 = .returned (.tuple #[bv (.slice none 0 0) (.slice none 0 0) 0 0 0 0 0 0 0 (.slice none 0 0) (.slice none 0 0) (.slice none 0 0), .bool false]) ∧ Kp w w' := by
  have k0 : Kp w ((w.alloc (.cells #[.slice (some ⟨gt, 0, none⟩) nt ct, .slice (some ⟨gk, 0, none⟩) nk ck, .int .i64 a, .int .i64 b, .int .i64 c, .int .i64 d, .int .i64 e, .int .i64 W, .int .i64 H, x, r, y] 38)).alloc (.cells #[.slice none 0 0, .slice none 0 0, .int .i64 0, .int .i64 0, .int .i64 0, .int .i64 0, .int .i64 0, .int .i64 0, .int .i64 0, .slice none 0 0, .slice none 0 0, .slice none 0 0] 38)) := ((Kp.refl w).alloc _).alloc _
  have L0 : Live12 ((w.alloc (.cells #[.slice (some ⟨gt, 0, none⟩) nt ct, .slice (some ⟨gk, 0, none⟩) nk ck, .int .i64 a, .int .i64 b, .int .i64 c, .int .i64 d, .int .i64 e, .int .i64 W, .int .i64 H, x, r, y] 38)).alloc (.cells #[.slice none 0 0, .slice none 0 0, .int .i64 0, .int .i64 0, .int .i64 0, .int .i64 0, .int .i64 0, .int .i64 0, .int .i64 0, .slice none 0 0, .slice none 0 0, .slice none 0 0] 38)) (w.heap.size + 1) (.slice none 0 0) (.slice none 0 0) (.int .i64 0) (.int .i64 0) (.int .i64 0) (.int .i64 0) (.int .i64 0) (.int .i64 0) (.int .i64 0) (.slice none 0 0) (.slice none 0 0) (.slice none 0 0) := ⟨by simp [go_sem], by simp [go_sem], by simp [go_sem], by simp [go_sem], by simp [go_sem], by simp [go_sem], by simp [go_sem], by simp [go_sem], by simp [go_sem], by simp [go_sem], by simp [go_sem], by simp [go_sem]⟩
  have C1 : Hid (Calls Tryz.prog 18 #[bv (.slice (some ⟨gt, 0, none⟩) nt ct) (.slice (some ⟨gk, 0, none⟩) nk ck) a b c d e W H x r y] ((w.alloc (.cells #[.slice (some ⟨gt, 0, none⟩) nt ct, .slice (some ⟨gk, 0, none⟩) nk ck, .int .i64 a, .int .i64 b, .int .i64 c, .int .i64 d, .int .i64 e, .int .i64 W, .int .i64 H, x, r, y] 38)).alloc (.cells #[.slice none 0 0, .slice none 0 0, .int .i64 0, .int .i64 0, .int .i64 0, .int .i64 0, .int .i64 0, .int .i64 0, .int .i64 0, .slice none 0 0, .slice none 0 0, .slice none 0 0] 38)) fun e9 w' => e9 = .returned (.bool false) ∧ Kp ((w.alloc (.cells #[.slice (some ⟨gt, 0, none⟩) nt ct, .slice (some ⟨gk, 0, none⟩) nk ck, .int .i64 a, .int .i64 b, .int .i64 c, .int .i64 d, .int .i64 e, .int .i64 W, .int .i64 H, x, r, y] 38)).alloc (.cells #[.slice none 0 0, .slice none 0 0, .int .i64 0, .int .i64 0, .int .i64 0, .int .i64 0, .int .i64 0, .int .i64 0, .int .i64 0, .slice none 0 0, .slice none 0 0, .slice none 0 0] 38)) w') := Lib.hid (by
    have := isBoard_any (some ⟨gt, 0, none⟩) (some ⟨gk, 0, none⟩) nt nk ct ck l m a b c d e W H x r y lt lr ld ((w.alloc (.cells #[.slice (some ⟨gt, 0, none⟩) nt ct, .slice (some ⟨gk, 0, none⟩) nk ck, .int .i64 a, .int .i64 b, .int .i64 c, .int .i64 d, .int .i64 e, .int .i64 W, .int .i64 H, x, r, y] 38)).alloc (.cells #[.slice none 0 0, .slice none 0 0, .int .i64 0, .int .i64 0, .int .i64 0, .int .i64 0, .int .i64 0, .int .i64 0, .int .i64 0, .slice none 0 0, .slice none 0 0, .slice none 0 0] 38)) (hs.keep k0) (ht.keep k0) (hB.keep k0)
    rw [hok] at this
    exact this)
  clear hB hok hs ht
  go_enter Tryz.func7, Tryz.ntmps7
  go_wp2_with fail
  refine C1.out.mono ?_
  rintro e1 w1 ⟨rfl, k1⟩
  have L1 := live12_keep k1 L0
  have K1 : Kp w w1 := k0.trans k1
  clear k0 k1 L0 C1
  go_wp2_with fail
  refine bodyPost_ret (v := .tuple #[bv (.slice none 0 0) (.slice none 0 0) 0 0 0 0 0 0 0 (.slice none 0 0) (.slice none 0 0) (.slice none 0 0), .bool false]) (by simp [results, Tryz.results7, go_sem, *]) rfl ⟨rfl, ?_⟩
  exact ((((((((((((K1.setCell (show w.heap.size ≤ w.heap.size + 1 by omega) _).setCell (show w.heap.size ≤ w.heap.size + 1 by omega) _).setCell (show w.heap.size ≤ w.heap.size + 1 by omega) _).setCell (show w.heap.size ≤ w.heap.size + 1 by omega) _).setCell (show w.heap.size ≤ w.heap.size + 1 by omega) _).setCell (show w.heap.size ≤ w.heap.size + 1 by omega) _).setCell (show w.heap.size ≤ w.heap.size + 1 by omega) _).setCell (show w.heap.size ≤ w.heap.size + 1 by omega) _).setCell (show w.heap.size ≤ w.heap.size + 1 by omega) _).setCell (show w.heap.size ≤ w.heap.size + 1 by omega) _).setCell (show w.heap.size ≤ w.heap.size + 1 by omega) _).setCell (show w.heap.size ≤ w.heap.size + 1 by omega) _)

/-- What both sides hand back, whatever the argument. -/
theorem both (nt nk : Nat) (l : List Ter) (m : List Knd) (a b c d e W H : Int) (lt lr ld : List Int) (hbc : ∀ x ∈ l, x.cost.length ≤ 1048576) : ∃ (B : Bool) (N1 N2 : Nat) (L : List Ter) (M : List Knd) (a' b' c' d' e' W' H' : Int) (T' R' D' : List Int) (n3 n4 n5 : Nat), (∀ (gt gk ct ck : Nat) (x r y : Value) (w : World), BrdAt w (some ⟨gt, 0, none⟩) (some ⟨gk, 0, none⟩) nt nk l m x r y lt lr ld → Calls Tryz.prog 5 #[bv (.slice (some ⟨gt, 0, none⟩) nt ct) (.slice (some ⟨gk, 0, none⟩) nk ck) a b c d e W H x r y] w fun e9 w' => ∃ (A1 : Option Addr) (c1 : Nat) (A2 : Option Addr) (c2 : Nat) (A3 : Option Addr) (c3 : Nat) (A4 : Option Addr) (c4 : Nat) (A5 : Option Addr) (c5 : Nat), e9 = .returned (.tuple #[bv (.slice A1 N1 c1) (.slice A2 N2 c2) a' b' c' d' e' W' H' (.slice A3 n3 c3) (.slice A4 n4 c4) (.slice A5 n5 c5), .bool B]) ∧ BrdAt w' A1 A2 N1 N2 L M (.slice A3 n3 c3) (.slice A4 n4 c4) (.slice A5 n5 c5) T' R' D' ∧ Kp w w') ∧ (∀ (gt gk ct ck : Nat) (x r y : Value) (w : World), Spans w → Tab w → BrdAt w (some ⟨gt, 0, none⟩) (some ⟨gk, 0, none⟩) nt nk l m x r y lt lr ld → Calls Tryz.prog 7 #[bv (.slice (some ⟨gt, 0, none⟩) nt ct) (.slice (some ⟨gk, 0, none⟩) nk ck) a b c d e W H x r y] w fun e9 w' => ∃ (A1 : Option Addr) (c1 : Nat) (A2 : Option Addr) (c2 : Nat) (A3 : Option Addr) (c3 : Nat) (A4 : Option Addr) (c4 : Nat) (A5 : Option Addr) (c5 : Nat) (base top : Nat) (own rd : World → Prop) (kk : Int), e9 = .returned (.tuple #[bv (.slice A1 N1 c1) (.slice A2 N2 c2) a' b' c' d' e' W' H' (.slice A3 n3 c3) (.slice A4 n4 c4) (.slice A5 n5 c5), .bool B]) ∧ (∀ w, own w → BrdAt w A1 A2 N1 N2 L M (.slice A3 n3 c3) (.slice A4 n4 c4) (.slice A5 n5 c5) T' R' D') ∧ Mker (bv (.slice A1 N1 c1) (.slice A2 N2 c2) a' b' c' d' e' W' H' (.slice A3 n3 c3) (.slice A4 n4 c4) (.slice A5 n5 c5)) base top own rd kk ∧ own w' ∧ w.heap.size ≤ base ∧ top ≤ w'.heap.size ∧ Kp w w') := by
  cases hok : brdOk ⟨l, m, a, b, c, d, e⟩ W H lt lr ld
  · refine ⟨false, 0, 0, [], [], 0, 0, 0, 0, 0, 0, 0, [], [], [], 0, 0, 0, fun gt gk ct ck x r y w hB => ?_, fun gt gk ct ck x r y w hs ht hB => ?_⟩
    · exact (specMirrorBoard_no gt gk nt nk ct ck l m a b c d e W H x r y lt lr ld w hB hok).mono fun e9 w' ⟨h1, h2⟩ => ⟨none, 0, none, 0, none, 0, none, 0, none, 0, h1, brd_zero _, h2⟩
    · exact (implMirrorBoard_no gt gk nt nk ct ck l m a b c d e W H x r y lt lr ld w hs ht hB hok).mono fun e9 w' ⟨h1, h2⟩ => ⟨none, 0, none, 0, none, 0, none, 0, none, 0, w.heap.size, w.heap.size, _, _, 1, h1, fun _ _ => brd_zero _, mker_zero w.heap.size w.heap.size, h2.size, Nat.le_refl _, h2.size, h2⟩
  · refine ⟨true, nt, nk, l, m, a, b, c, d, e, H, W, mlT W H lt, mlE W H lr, mlE W H ld, (mlT W H lt).length, (mlE W H lr).length, (mlE W H ld).length, fun gt gk ct ck x r y w hB => ?_, fun gt gk ct ck x r y w hs ht hB => ?_⟩
    · exact (specMirrorBoard_g gt 0 gk 0 nt nk ct ck l m a b c d e W H x r y lt lr ld w hB hok).mono fun e9 w' ⟨g1, g2, c1, c2, A3, c3, A4, c4, A5, c5, h1, h2, h3⟩ => ⟨some ⟨g1, 0, none⟩, c1, some ⟨g2, 0, none⟩, c2, A3, c3, A4, c4, A5, c5, h1, h2, h3⟩
    · have hT := hB.L.bt
      have hR := hB.L.br
      have hD := hB.L.bd
      have q3 : (mlT W H lt).length ≤ 1048576 := by unfold mlT; rw [mirT_length]; exact hT
      have q4 : (mlE W H lr).length ≤ 1048576 := by unfold mlE; rw [List.length_mergeSort, List.length_map]; exact hR
      have q5 : (mlE W H ld).length ≤ 1048576 := by unfold mlE; rw [List.length_mergeSort, List.length_map]; exact hD
      exact (implMirrorBoard_g gt 0 gk 0 nt nk ct ck l m a b c d e W H x r y lt lr ld w hs ht hB hok).mono fun e9 w' ⟨mlo, lo, mid, hi, g1, g2, c1, c2, cs, ys, zs, A3, c3, A4, c4, A5, c5, h1, h2, h3, h4, h5⟩ => ⟨some ⟨g1, 0, none⟩, c1, some ⟨g2, 0, none⟩, c2, A3, c3, A4, c4, A5, c5, mlo, hi, _, _, _, h1, fun w2 ho => ⟨⟨ho.T.rd, ho.K.rd, hB.R.bt, hB.R.bk, hB.R.bc, hB.R.bn⟩, ho.M.lists h4⟩, mker_own mlo lo mid hi g1 g2 nt nk c1 c2 l m cs ys zs a b c d e H W _ _ _ _ _ _ hB.R.rt.1 hB.R.bt hB.R.bk hbc q3 q4 q5, h2, h3, h2.h4, h5⟩

set_option maxRecDepth 100000 in
set_option maxHeartbeats 16000000 in
theorem walk (At Ak : Option Addr) (nt nk ct ck : Nat) (l : List Ter) (m : List Knd) (a b c d e W H : Int) (x r y : Value) (lt lr ld : List Int) (w : World) (hs : Spans w) (ht : Tab w) (hr : BrdIn w At Ak nt nk l m x r y lt lr ld) :
    Calls Tryz.prog 3 #[bv (.slice At nt ct) (.slice Ak nk ck) a b c d e W H x r y] w fun e' w' => e' = .returned (.bool true) ∧ Kp w w' := by
  have HR := Lib.hid hr
  have HS := Lib.hid hs
  have HT := Lib.hid ht
  obtain ⟨mt, e1⟩ : ∃ n, lt.length = n := ⟨_, rfl⟩
  obtain ⟨mr, e2⟩ : ∃ n, lr.length = n := ⟨_, rfl⟩
  obtain ⟨md, e3⟩ : ∃ n, ld.length = n := ⟨_, rfl⟩
  have HE1 := Lib.hid e1
  have HE2 := Lib.hid e2
  have HE3 := Lib.hid e3
  clear e1 e2 e3
  clear hr hs ht
  have s0 : (w.alloc (.cells #[.slice At nt ct, .slice Ak nk ck, .int .i64 a, .int .i64 b, .int .i64 c, .int .i64 d, .int .i64 e, .int .i64 W, .int .i64 H, x, r, y] 30)).cell? ⟨w.heap.size, 0, none⟩ = some (.slice At nt ct) ∧ (w.alloc (.cells #[.slice At nt ct, .slice Ak nk ck, .int .i64 a, .int .i64 b, .int .i64 c, .int .i64 d, .int .i64 e, .int .i64 W, .int .i64 H, x, r, y] 30)).cell? ⟨w.heap.size, 1, none⟩ = some (.slice Ak nk ck) ∧ (w.alloc (.cells #[.slice At nt ct, .slice Ak nk ck, .int .i64 a, .int .i64 b, .int .i64 c, .int .i64 d, .int .i64 e, .int .i64 W, .int .i64 H, x, r, y] 30)).cell? ⟨w.heap.size, 2, none⟩ = some (.int .i64 a) ∧ (w.alloc (.cells #[.slice At nt ct, .slice Ak nk ck, .int .i64 a, .int .i64 b, .int .i64 c, .int .i64 d, .int .i64 e, .int .i64 W, .int .i64 H, x, r, y] 30)).cell? ⟨w.heap.size, 3, none⟩ = some (.int .i64 b) ∧ (w.alloc (.cells #[.slice At nt ct, .slice Ak nk ck, .int .i64 a, .int .i64 b, .int .i64 c, .int .i64 d, .int .i64 e, .int .i64 W, .int .i64 H, x, r, y] 30)).cell? ⟨w.heap.size, 4, none⟩ = some (.int .i64 c) ∧ (w.alloc (.cells #[.slice At nt ct, .slice Ak nk ck, .int .i64 a, .int .i64 b, .int .i64 c, .int .i64 d, .int .i64 e, .int .i64 W, .int .i64 H, x, r, y] 30)).cell? ⟨w.heap.size, 5, none⟩ = some (.int .i64 d) ∧ (w.alloc (.cells #[.slice At nt ct, .slice Ak nk ck, .int .i64 a, .int .i64 b, .int .i64 c, .int .i64 d, .int .i64 e, .int .i64 W, .int .i64 H, x, r, y] 30)).cell? ⟨w.heap.size, 6, none⟩ = some (.int .i64 e) ∧ (w.alloc (.cells #[.slice At nt ct, .slice Ak nk ck, .int .i64 a, .int .i64 b, .int .i64 c, .int .i64 d, .int .i64 e, .int .i64 W, .int .i64 H, x, r, y] 30)).cell? ⟨w.heap.size, 7, none⟩ = some (.int .i64 W) ∧ (w.alloc (.cells #[.slice At nt ct, .slice Ak nk ck, .int .i64 a, .int .i64 b, .int .i64 c, .int .i64 d, .int .i64 e, .int .i64 W, .int .i64 H, x, r, y] 30)).cell? ⟨w.heap.size, 8, none⟩ = some (.int .i64 H) ∧ (w.alloc (.cells #[.slice At nt ct, .slice Ak nk ck, .int .i64 a, .int .i64 b, .int .i64 c, .int .i64 d, .int .i64 e, .int .i64 W, .int .i64 H, x, r, y] 30)).cell? ⟨w.heap.size, 9, none⟩ = some (x) ∧ (w.alloc (.cells #[.slice At nt ct, .slice Ak nk ck, .int .i64 a, .int .i64 b, .int .i64 c, .int .i64 d, .int .i64 e, .int .i64 W, .int .i64 H, x, r, y] 30)).cell? ⟨w.heap.size, 10, none⟩ = some (r) ∧ (w.alloc (.cells #[.slice At nt ct, .slice Ak nk ck, .int .i64 a, .int .i64 b, .int .i64 c, .int .i64 d, .int .i64 e, .int .i64 W, .int .i64 H, x, r, y] 30)).cell? ⟨w.heap.size, 11, none⟩ = some (y) ∧ Kp w (w.alloc (.cells #[.slice At nt ct, .slice Ak nk ck, .int .i64 a, .int .i64 b, .int .i64 c, .int .i64 d, .int .i64 e, .int .i64 W, .int .i64 H, x, r, y] 30)) := ⟨by simp [go_sem], by simp [go_sem], by simp [go_sem], by simp [go_sem], by simp [go_sem], by simp [go_sem], by simp [go_sem], by simp [go_sem], by simp [go_sem], by simp [go_sem], by simp [go_sem], by simp [go_sem], (Kp.refl w).alloc _⟩
  go_enter Tryz.func3, Tryz.ntmps3
  go_wp2_with fail
  refine (szBoard_any _ _ _ _ _ _ l m _ _ _ _ _ _ _ _ _ _ lt lr ld _ _ (HR.out.keep s0.2.2.2.2.2.2.2.2.2.2.2.2) (by omega) (by omega)).mono ?_
  rintro e1 w1 ⟨r1, rfl, u1, u2, u3, k1⟩
  have s1 := keep12k k1 s0
  have U3 := Lib.hid u3
  clear s0 k1 u3
  by_cases hneg : r1 < 0
  · go_wp2_with fail
    go_ret
    exact ⟨rfl, s1.2.2.2.2.2.2.2.2.2.2.2.2⟩
  have SM := Lib.hid (U3.out (by omega))
  have RA := Lib.hid (HR.out.at SM.out)
  clear U3
  obtain ⟨B, N1, N2, L, M, a', b', c', d', e', W', H', T', R', D', n3, n4, n5, cs, ci⟩ := both nt nk l m a b c d e W H lt lr ld (fun x hx => (RA.out.R.bc x hx).1)
  have CS := Lib.hid cs
  have CI := Lib.hid ci
  have eB : (B != B) = false := by simp
  clear cs ci
  go_wp2_with fail
  refine (toBoard_any _ _ _ _ _ _ l m _ _ _ _ _ _ _ _ _ _ lt lr ld mt mr md _ (RA.out.keep s1.2.2.2.2.2.2.2.2.2.2.2.2) HE1.out HE2.out HE3.out).mono ?_
  rintro e2 w2 ⟨g1a, g2a, csa, ysa, zsa, A1a, c1a, A2a, c2a, A3a, c3a, rfl, o2, k2⟩
  have s2 := keep12k k2 s1
  have L2 := Lib.hid (o2.at RA.out)
  clear s1 k2 o2
  go_wp2_with fail
  refine (CS.out _ _ _ _ _ _ _ _ L2.out).mono ?_
  rintro e3 w3 ⟨A1, c1, A2, c2, A3, c3, A4, c4, A5, c5, rfl, b3, k3⟩
  have kz : Kp w3 (w3.alloc (.cells #[.slice A1 N1 c1, .slice A2 N2 c2, .int .i64 a', .int .i64 b', .int .i64 c', .int .i64 d', .int .i64 e', .int .i64 W', .int .i64 H', .slice A3 n3 c3, .slice A4 n4 c4, .slice A5 n5 c5] 38)) := (Kp.refl w3).alloc _
  have s3 := keep12k (k3.trans kz) s2
  have f4 := new12 w3 (.slice A1 N1 c1) (.slice A2 N2 c2) (.int .i64 a') (.int .i64 b') (.int .i64 c') (.int .i64 d') (.int .i64 e') (.int .i64 W') (.int .i64 H') (.slice A3 n3 c3) (.slice A4 n4 c4) (.slice A5 n5 c5) 38
  have R0 := Lib.hid (b3.keep kz)
  have hzz : w3.heap.size + 1 ≤ (w3.alloc (.cells #[.slice A1 N1 c1, .slice A2 N2 c2, .int .i64 a', .int .i64 b', .int .i64 c', .int .i64 d', .int .i64 e', .int .i64 W', .int .i64 H', .slice A3 n3 c3, .slice A4 n4 c4, .slice A5 n5 c5] 38)).heap.size := by simp
  clear s2 k3 L2 b3 kz
  go_wp2_with fail
  generalize hW3 : w3.alloc (.cells #[.slice A1 N1 c1, .slice A2 N2 c2, .int .i64 a', .int .i64 b', .int .i64 c', .int .i64 d', .int .i64 e', .int .i64 W', .int .i64 H', .slice A3 n3 c3, .slice A4 n4 c4, .slice A5 n5 c5] 38) = W3 at *
  clear hW3
  have F4 := Lib.hid f4
  have HS3 := Lib.hid s3
  clear f4
  refine (toBoard_any _ _ _ _ _ _ l m _ _ _ _ _ _ _ _ _ _ lt lr ld mt mr md _ (RA.out.keep s3.2.2.2.2.2.2.2.2.2.2.2.2) HE1.out HE2.out HE3.out).mono ?_
  rintro e4 w4 ⟨g1b, g2b, csb, ysb, zsb, A1b, c1b, A2b, c2b, A3b, c3b, rfl, o4, k4⟩
  have s4a := keep12k k4 s3
  have kb : Kp w4 (w4.alloc (.cells #[.slice (some ⟨g1b, 0, none⟩) nt nt, .slice (some ⟨g2b, 0, none⟩) nk nk, .int .i64 a, .int .i64 b, .int .i64 c, .int .i64 d, .int .i64 e, .int .i64 W, .int .i64 H, .slice A1b mt c1b, .slice A2b mr c2b, .slice A3b md c3b] 38)) := (Kp.refl w4).alloc _
  have s4 : (w4.alloc (.cells #[.slice (some ⟨g1b, 0, none⟩) nt nt, .slice (some ⟨g2b, 0, none⟩) nk nk, .int .i64 a, .int .i64 b, .int .i64 c, .int .i64 d, .int .i64 e, .int .i64 W, .int .i64 H, .slice A1b mt c1b, .slice A2b mr c2b, .slice A3b md c3b] 38)).cell? ⟨w.heap.size, 0, none⟩ = some (.slice At nt ct) ∧ (w4.alloc (.cells #[.slice (some ⟨g1b, 0, none⟩) nt nt, .slice (some ⟨g2b, 0, none⟩) nk nk, .int .i64 a, .int .i64 b, .int .i64 c, .int .i64 d, .int .i64 e, .int .i64 W, .int .i64 H, .slice A1b mt c1b, .slice A2b mr c2b, .slice A3b md c3b] 38)).cell? ⟨w.heap.size, 1, none⟩ = some (.slice Ak nk ck) ∧ (w4.alloc (.cells #[.slice (some ⟨g1b, 0, none⟩) nt nt, .slice (some ⟨g2b, 0, none⟩) nk nk, .int .i64 a, .int .i64 b, .int .i64 c, .int .i64 d, .int .i64 e, .int .i64 W, .int .i64 H, .slice A1b mt c1b, .slice A2b mr c2b, .slice A3b md c3b] 38)).cell? ⟨w.heap.size, 2, none⟩ = some (.int .i64 a) ∧ (w4.alloc (.cells #[.slice (some ⟨g1b, 0, none⟩) nt nt, .slice (some ⟨g2b, 0, none⟩) nk nk, .int .i64 a, .int .i64 b, .int .i64 c, .int .i64 d, .int .i64 e, .int .i64 W, .int .i64 H, .slice A1b mt c1b, .slice A2b mr c2b, .slice A3b md c3b] 38)).cell? ⟨w.heap.size, 3, none⟩ = some (.int .i64 b) ∧ (w4.alloc (.cells #[.slice (some ⟨g1b, 0, none⟩) nt nt, .slice (some ⟨g2b, 0, none⟩) nk nk, .int .i64 a, .int .i64 b, .int .i64 c, .int .i64 d, .int .i64 e, .int .i64 W, .int .i64 H, .slice A1b mt c1b, .slice A2b mr c2b, .slice A3b md c3b] 38)).cell? ⟨w.heap.size, 4, none⟩ = some (.int .i64 c) ∧ (w4.alloc (.cells #[.slice (some ⟨g1b, 0, none⟩) nt nt, .slice (some ⟨g2b, 0, none⟩) nk nk, .int .i64 a, .int .i64 b, .int .i64 c, .int .i64 d, .int .i64 e, .int .i64 W, .int .i64 H, .slice A1b mt c1b, .slice A2b mr c2b, .slice A3b md c3b] 38)).cell? ⟨w.heap.size, 5, none⟩ = some (.int .i64 d) ∧ (w4.alloc (.cells #[.slice (some ⟨g1b, 0, none⟩) nt nt, .slice (some ⟨g2b, 0, none⟩) nk nk, .int .i64 a, .int .i64 b, .int .i64 c, .int .i64 d, .int .i64 e, .int .i64 W, .int .i64 H, .slice A1b mt c1b, .slice A2b mr c2b, .slice A3b md c3b] 38)).cell? ⟨w.heap.size, 6, none⟩ = some (.int .i64 e) ∧ (w4.alloc (.cells #[.slice (some ⟨g1b, 0, none⟩) nt nt, .slice (some ⟨g2b, 0, none⟩) nk nk, .int .i64 a, .int .i64 b, .int .i64 c, .int .i64 d, .int .i64 e, .int .i64 W, .int .i64 H, .slice A1b mt c1b, .slice A2b mr c2b, .slice A3b md c3b] 38)).cell? ⟨w.heap.size, 7, none⟩ = some (.int .i64 W) ∧ (w4.alloc (.cells #[.slice (some ⟨g1b, 0, none⟩) nt nt, .slice (some ⟨g2b, 0, none⟩) nk nk, .int .i64 a, .int .i64 b, .int .i64 c, .int .i64 d, .int .i64 e, .int .i64 W, .int .i64 H, .slice A1b mt c1b, .slice A2b mr c2b, .slice A3b md c3b] 38)).cell? ⟨w.heap.size, 8, none⟩ = some (.int .i64 H) ∧ (w4.alloc (.cells #[.slice (some ⟨g1b, 0, none⟩) nt nt, .slice (some ⟨g2b, 0, none⟩) nk nk, .int .i64 a, .int .i64 b, .int .i64 c, .int .i64 d, .int .i64 e, .int .i64 W, .int .i64 H, .slice A1b mt c1b, .slice A2b mr c2b, .slice A3b md c3b] 38)).cell? ⟨w.heap.size, 9, none⟩ = some (x) ∧ (w4.alloc (.cells #[.slice (some ⟨g1b, 0, none⟩) nt nt, .slice (some ⟨g2b, 0, none⟩) nk nk, .int .i64 a, .int .i64 b, .int .i64 c, .int .i64 d, .int .i64 e, .int .i64 W, .int .i64 H, .slice A1b mt c1b, .slice A2b mr c2b, .slice A3b md c3b] 38)).cell? ⟨w.heap.size, 10, none⟩ = some (r) ∧ (w4.alloc (.cells #[.slice (some ⟨g1b, 0, none⟩) nt nt, .slice (some ⟨g2b, 0, none⟩) nk nk, .int .i64 a, .int .i64 b, .int .i64 c, .int .i64 d, .int .i64 e, .int .i64 W, .int .i64 H, .slice A1b mt c1b, .slice A2b mr c2b, .slice A3b md c3b] 38)).cell? ⟨w.heap.size, 11, none⟩ = some (y) ∧ (w4.alloc (.cells #[.slice (some ⟨g1b, 0, none⟩) nt nt, .slice (some ⟨g2b, 0, none⟩) nk nk, .int .i64 a, .int .i64 b, .int .i64 c, .int .i64 d, .int .i64 e, .int .i64 W, .int .i64 H, .slice A1b mt c1b, .slice A2b mr c2b, .slice A3b md c3b] 38)).cell? ⟨w4.heap.size, 0, none⟩ = some (.slice (some ⟨g1b, 0, none⟩) nt nt) ∧ (w4.alloc (.cells #[.slice (some ⟨g1b, 0, none⟩) nt nt, .slice (some ⟨g2b, 0, none⟩) nk nk, .int .i64 a, .int .i64 b, .int .i64 c, .int .i64 d, .int .i64 e, .int .i64 W, .int .i64 H, .slice A1b mt c1b, .slice A2b mr c2b, .slice A3b md c3b] 38)).cell? ⟨w4.heap.size, 1, none⟩ = some (.slice (some ⟨g2b, 0, none⟩) nk nk) ∧ (w4.alloc (.cells #[.slice (some ⟨g1b, 0, none⟩) nt nt, .slice (some ⟨g2b, 0, none⟩) nk nk, .int .i64 a, .int .i64 b, .int .i64 c, .int .i64 d, .int .i64 e, .int .i64 W, .int .i64 H, .slice A1b mt c1b, .slice A2b mr c2b, .slice A3b md c3b] 38)).cell? ⟨w4.heap.size, 2, none⟩ = some (.int .i64 a) ∧ (w4.alloc (.cells #[.slice (some ⟨g1b, 0, none⟩) nt nt, .slice (some ⟨g2b, 0, none⟩) nk nk, .int .i64 a, .int .i64 b, .int .i64 c, .int .i64 d, .int .i64 e, .int .i64 W, .int .i64 H, .slice A1b mt c1b, .slice A2b mr c2b, .slice A3b md c3b] 38)).cell? ⟨w4.heap.size, 3, none⟩ = some (.int .i64 b) ∧ (w4.alloc (.cells #[.slice (some ⟨g1b, 0, none⟩) nt nt, .slice (some ⟨g2b, 0, none⟩) nk nk, .int .i64 a, .int .i64 b, .int .i64 c, .int .i64 d, .int .i64 e, .int .i64 W, .int .i64 H, .slice A1b mt c1b, .slice A2b mr c2b, .slice A3b md c3b] 38)).cell? ⟨w4.heap.size, 4, none⟩ = some (.int .i64 c) ∧ (w4.alloc (.cells #[.slice (some ⟨g1b, 0, none⟩) nt nt, .slice (some ⟨g2b, 0, none⟩) nk nk, .int .i64 a, .int .i64 b, .int .i64 c, .int .i64 d, .int .i64 e, .int .i64 W, .int .i64 H, .slice A1b mt c1b, .slice A2b mr c2b, .slice A3b md c3b] 38)).cell? ⟨w4.heap.size, 5, none⟩ = some (.int .i64 d) ∧ (w4.alloc (.cells #[.slice (some ⟨g1b, 0, none⟩) nt nt, .slice (some ⟨g2b, 0, none⟩) nk nk, .int .i64 a, .int .i64 b, .int .i64 c, .int .i64 d, .int .i64 e, .int .i64 W, .int .i64 H, .slice A1b mt c1b, .slice A2b mr c2b, .slice A3b md c3b] 38)).cell? ⟨w4.heap.size, 6, none⟩ = some (.int .i64 e) ∧ (w4.alloc (.cells #[.slice (some ⟨g1b, 0, none⟩) nt nt, .slice (some ⟨g2b, 0, none⟩) nk nk, .int .i64 a, .int .i64 b, .int .i64 c, .int .i64 d, .int .i64 e, .int .i64 W, .int .i64 H, .slice A1b mt c1b, .slice A2b mr c2b, .slice A3b md c3b] 38)).cell? ⟨w4.heap.size, 7, none⟩ = some (.int .i64 W) ∧ (w4.alloc (.cells #[.slice (some ⟨g1b, 0, none⟩) nt nt, .slice (some ⟨g2b, 0, none⟩) nk nk, .int .i64 a, .int .i64 b, .int .i64 c, .int .i64 d, .int .i64 e, .int .i64 W, .int .i64 H, .slice A1b mt c1b, .slice A2b mr c2b, .slice A3b md c3b] 38)).cell? ⟨w4.heap.size, 8, none⟩ = some (.int .i64 H) ∧ (w4.alloc (.cells #[.slice (some ⟨g1b, 0, none⟩) nt nt, .slice (some ⟨g2b, 0, none⟩) nk nk, .int .i64 a, .int .i64 b, .int .i64 c, .int .i64 d, .int .i64 e, .int .i64 W, .int .i64 H, .slice A1b mt c1b, .slice A2b mr c2b, .slice A3b md c3b] 38)).cell? ⟨w4.heap.size, 9, none⟩ = some (.slice A1b mt c1b) ∧ (w4.alloc (.cells #[.slice (some ⟨g1b, 0, none⟩) nt nt, .slice (some ⟨g2b, 0, none⟩) nk nk, .int .i64 a, .int .i64 b, .int .i64 c, .int .i64 d, .int .i64 e, .int .i64 W, .int .i64 H, .slice A1b mt c1b, .slice A2b mr c2b, .slice A3b md c3b] 38)).cell? ⟨w4.heap.size, 10, none⟩ = some (.slice A2b mr c2b) ∧ (w4.alloc (.cells #[.slice (some ⟨g1b, 0, none⟩) nt nt, .slice (some ⟨g2b, 0, none⟩) nk nk, .int .i64 a, .int .i64 b, .int .i64 c, .int .i64 d, .int .i64 e, .int .i64 W, .int .i64 H, .slice A1b mt c1b, .slice A2b mr c2b, .slice A3b md c3b] 38)).cell? ⟨w4.heap.size, 11, none⟩ = some (.slice A3b md c3b) ∧ Kp w (w4.alloc (.cells #[.slice (some ⟨g1b, 0, none⟩) nt nt, .slice (some ⟨g2b, 0, none⟩) nk nk, .int .i64 a, .int .i64 b, .int .i64 c, .int .i64 d, .int .i64 e, .int .i64 W, .int .i64 H, .slice A1b mt c1b, .slice A2b mr c2b, .slice A3b md c3b] 38)) := ⟨kb.cell s4a.1, kb.cell s4a.2.1, kb.cell s4a.2.2.1, kb.cell s4a.2.2.2.1, kb.cell s4a.2.2.2.2.1, kb.cell s4a.2.2.2.2.2.1, kb.cell s4a.2.2.2.2.2.2.1, kb.cell s4a.2.2.2.2.2.2.2.1, kb.cell s4a.2.2.2.2.2.2.2.2.1, kb.cell s4a.2.2.2.2.2.2.2.2.2.1, kb.cell s4a.2.2.2.2.2.2.2.2.2.2.1, kb.cell s4a.2.2.2.2.2.2.2.2.2.2.2.1, by simp [go_sem], by simp [go_sem], by simp [go_sem], by simp [go_sem], by simp [go_sem], by simp [go_sem], by simp [go_sem], by simp [go_sem], by simp [go_sem], by simp [go_sem], by simp [go_sem], by simp [go_sem], s4a.2.2.2.2.2.2.2.2.2.2.2.2.trans kb⟩
  have O4 := Lib.hid (o4.keep kb)
  have I4 := Lib.hid (And.intro o4.R.z (And.intro (fun g e => (World.ownsRow.lt o4.M.ot g e).2) (And.intro (fun g e => (World.ownsRow.lt o4.M.or g e).2) (fun g e => (World.ownsRow.lt o4.M.od g e).2))))
  have K34 : Kp W3 (w4.alloc (.cells #[.slice (some ⟨g1b, 0, none⟩) nt nt, .slice (some ⟨g2b, 0, none⟩) nk nk, .int .i64 a, .int .i64 b, .int .i64 c, .int .i64 d, .int .i64 e, .int .i64 W, .int .i64 H, .slice A1b mt c1b, .slice A2b mr c2b, .slice A3b md c3b] 38)) := k4.trans kb
  have hz34 := k4.size
  have hz4 : w4.heap.size + 1 ≤ (w4.alloc (.cells #[.slice (some ⟨g1b, 0, none⟩) nt nt, .slice (some ⟨g2b, 0, none⟩) nk nk, .int .i64 a, .int .i64 b, .int .i64 c, .int .i64 d, .int .i64 e, .int .i64 W, .int .i64 H, .slice A1b mt c1b, .slice A2b mr c2b, .slice A3b md c3b] 38)).heap.size := by simp
  clear s3 k4 o4 s4a kb
  go_wp2_with fail
  generalize hW5 : w4.alloc (.cells #[.slice (some ⟨g1b, 0, none⟩) nt nt, .slice (some ⟨g2b, 0, none⟩) nk nk, .int .i64 a, .int .i64 b, .int .i64 c, .int .i64 d, .int .i64 e, .int .i64 W, .int .i64 H, .slice A1b mt c1b, .slice A2b mr c2b, .slice A3b md c3b] 38) = W5 at *
  clear hW5
  refine (CI.out _ _ _ _ _ _ _ _ (HS.out.keep s4.2.2.2.2.2.2.2.2.2.2.2.2.2.2.2.2.2.2.2.2.2.2.2.2) (HT.out.keep s4.2.2.2.2.2.2.2.2.2.2.2.2.2.2.2.2.2.2.2.2.2.2.2.2) (O4.out.at RA.out)).mono ?_
  rintro e6 w6 ⟨B1, q1, B2, q2, B3, q3, B4, q4, B5, q5, base, top, own, rd, kk1, rfl, rb, mk6, ow6, hb6, ht6, k6⟩
  have kg : Kp w6 (w6.alloc (.cells #[.slice B1 N1 q1, .slice B2 N2 q2, .int .i64 a', .int .i64 b', .int .i64 c', .int .i64 d', .int .i64 e', .int .i64 W', .int .i64 H', .slice B3 n3 q3, .slice B4 n4 q4, .slice B5 n5 q5] 38)) := (Kp.refl w6).alloc _
  have f7 := new12 w6 (.slice B1 N1 q1) (.slice B2 N2 q2) (.int .i64 a') (.int .i64 b') (.int .i64 c') (.int .i64 d') (.int .i64 e') (.int .i64 W') (.int .i64 H') (.slice B3 n3 q3) (.slice B4 n4 q4) (.slice B5 n5 q5) 38
  have s6 := keep24k (k6.trans kg) s4
  have RB := Lib.hid rb
  have MK := Lib.hid mk6
  have OW6 := Lib.hid (mk6.ok _ _ ow6 kg)
  have O4a := Lib.hid (O4.out.keep (k6.trans kg))
  have K36 : Kp W3 (w6.alloc (.cells #[.slice B1 N1 q1, .slice B2 N2 q2, .int .i64 a', .int .i64 b', .int .i64 c', .int .i64 d', .int .i64 e', .int .i64 W', .int .i64 H', .slice B3 n3 q3, .slice B4 n4 q4, .slice B5 n5 q5] 38)) := K34.trans (k6.trans kg)
  have f4 := cell12_keep K36 F4.out
  have hz6 := k6.size
  have hz67 : w6.heap.size + 1 ≤ (w6.alloc (.cells #[.slice B1 N1 q1, .slice B2 N2 q2, .int .i64 a', .int .i64 b', .int .i64 c', .int .i64 d', .int .i64 e', .int .i64 W', .int .i64 H', .slice B3 n3 q3, .slice B4 n4 q4, .slice B5 n5 q5] 38)).heap.size := by simp
  have hk1 : ¬ kk1 < 0 := by have := mk6.k0; omega
  have hne : (kk1 != kk1) = false := by simp
  clear s4 O4 K34 k6 kg rb mk6 ow6
  go_wp2_with fail
  generalize hW7 : w6.alloc (.cells #[.slice B1 N1 q1, .slice B2 N2 q2, .int .i64 a', .int .i64 b', .int .i64 c', .int .i64 d', .int .i64 e', .int .i64 W', .int .i64 H', .slice B3 n3 q3, .slice B4 n4 q4, .slice B5 n5 q5] 38) = W7 at *
  clear hW7
  refine (eqBoard_same _ _ _ _ _ _ _ _ _ _ L M _ _ _ _ _ _ _ _ _ _ _ _ _ T' R' D' _ (RB.out _ OW6.out) (R0.out.keep K36)).mono ?_
  rintro e7 w7 ⟨rfl, k7⟩
  have s7a := keep24k k7 s6
  have F7 := Lib.hid (cell12_keep k7 f7)
  have OW7 := Lib.hid (MK.out.ok _ _ OW6.out k7)
  have O4b := Lib.hid (O4a.out.keep k7)
  have K37 : Kp W3 w7 := K36.trans k7
  have hz7 := k7.size
  clear s6 OW6 O4a K36 k7 f7 f4
  have s7 := drew24k s7a
  clear s7a
  go_wp2_with fail
  go_region_held3 (fun w' => w'.cell? ⟨w.heap.size, 0, none⟩ = some (.slice At nt ct) ∧ w'.cell? ⟨w.heap.size, 1, none⟩ = some (.slice Ak nk ck) ∧ w'.cell? ⟨w.heap.size, 2, none⟩ = some (.int .i64 a) ∧ w'.cell? ⟨w.heap.size, 3, none⟩ = some (.int .i64 b) ∧ w'.cell? ⟨w.heap.size, 4, none⟩ = some (.int .i64 c) ∧ w'.cell? ⟨w.heap.size, 5, none⟩ = some (.int .i64 d) ∧ w'.cell? ⟨w.heap.size, 6, none⟩ = some (.int .i64 e) ∧ w'.cell? ⟨w.heap.size, 7, none⟩ = some (.int .i64 W) ∧ w'.cell? ⟨w.heap.size, 8, none⟩ = some (.int .i64 H) ∧ w'.cell? ⟨w.heap.size, 9, none⟩ = some (x) ∧ w'.cell? ⟨w.heap.size, 10, none⟩ = some (r) ∧ w'.cell? ⟨w.heap.size, 11, none⟩ = some (y) ∧ w'.cell? ⟨w4.heap.size, 0, none⟩ = some (.slice (some ⟨g1b, 0, none⟩) nt nt) ∧ w'.cell? ⟨w4.heap.size, 1, none⟩ = some (.slice (some ⟨g2b, 0, none⟩) nk nk) ∧ w'.cell? ⟨w4.heap.size, 2, none⟩ = some (.int .i64 a) ∧ w'.cell? ⟨w4.heap.size, 3, none⟩ = some (.int .i64 b) ∧ w'.cell? ⟨w4.heap.size, 4, none⟩ = some (.int .i64 c) ∧ w'.cell? ⟨w4.heap.size, 5, none⟩ = some (.int .i64 d) ∧ w'.cell? ⟨w4.heap.size, 6, none⟩ = some (.int .i64 e) ∧ w'.cell? ⟨w4.heap.size, 7, none⟩ = some (.int .i64 W) ∧ w'.cell? ⟨w4.heap.size, 8, none⟩ = some (.int .i64 H) ∧ w'.cell? ⟨w4.heap.size, 9, none⟩ = some (.slice A1b mt c1b) ∧ w'.cell? ⟨w4.heap.size, 10, none⟩ = some (.slice A2b mr c2b) ∧ w'.cell? ⟨w4.heap.size, 11, none⟩ = some (.slice A3b md c3b) ∧ Kp w w') (first | assumption | exact s7)
    (first
      | (go_at_call 6; refine (toBoard_any _ _ _ _ _ _ l m _ _ _ _ _ _ _ _ _ _ lt lr ld mt mr md _ (RA.out.keep s7.2.2.2.2.2.2.2.2.2.2.2.2.2.2.2.2.2.2.2.2.2.2.2.2) HE1.out HE2.out HE3.out).mono ?_; rintro e8 w8 ⟨g1c, g2c, csc, ysc, zsc, A1c, c1c, A2c, c2c, A3c, c3c, rfl, o8, k8⟩; have s8 := keep24k k8 s7; have L8 := Lib.hid (o8.at RA.out); have MO := Lib.hid ((O4b.out.keep ((Kp.refl _).drew)).keep k8); have M8 := Lib.hid (MO.out.at RA.out); have k78 := Lib.hid ((Kp.refl w7).drew.trans k8))
      | (go_at_call 8; refine (eqBoard_same _ _ _ _ _ _ _ _ _ _ l m _ _ _ _ _ _ _ _ _ _ _ _ _ lt lr ld _ M8.out L8.out).mono ?_; rintro e9 w9 ⟨rfl, k9⟩; have s9 := keep24k k9 s8; have M9 := Lib.hid (MO.out.keep k9); have k79 := Lib.hid (k78.out.trans k9)))
  have OW9 := Lib.hid (MK.out.ok _ _ OW7.out k79.out)
  have F9 := Lib.hid (cell12_keep k79.out F7.out)
  have K39 : Kp W3 w9 := K37.trans k79.out
  have hz39 := K39.size
  have hz9 := k79.out.size
  clear s7 s8 L8 M8 MO k78 k79 OW7 F7 O4b K37
  go_wp2_with fail
  refine (markBoard_w W3.heap.size _ _ _ _ l m _ _ _ _ _ _ _ _ _ _ 1 _ _ _ lt lr ld _ M9.out RA.out.R.bt RA.out.R.bk (fun x hx => (RA.out.R.bc x hx).1) SM.out.2 (by omega) w4.heap.size (by omega) I4.out.1 I4.out.2.1 I4.out.2.2.1 I4.out.2.2.2 (by omega) (by omega)).mono ?_
  rintro e10 w10 ⟨kk, rfl, y10, m10⟩
  have K3a : Kp W3 w10 := m10.kp K39 (Nat.le_refl _)
  have OW10 := Lib.hid (MK.out.om _ _ _ _ OW9.out m10 (by omega))
  have f7 := cell12_high m10 (by omega) F9.out
  have f4 := cell12_keep K3a F4.out
  have F10 := Lib.hid f7
  have hk0 : ¬ kk < 0 := by omega
  clear m10 M9 OW9 K39 s9 F9
  go_wp2_with fail
  refine (eqBoard_same _ _ _ _ _ _ _ _ _ _ L M _ _ _ _ _ _ _ _ _ _ _ _ _ T' R' D' _ (RB.out _ OW10.out) (R0.out.keep K3a)).mono ?_
  rintro e11 w11 ⟨rfl, k11⟩
  have OW11 := Lib.hid (MK.out.ok _ _ OW10.out k11)
  have K3b : Kp W3 w11 := K3a.trans k11
  have g7 := cell12_keep k11 F10.out
  have F11 := Lib.hid g7
  have hz11 := k11.size
  clear OW10 K3a k11 f7 f4 F10
  go_wp2_with fail
  refine (MK.out.dk _ OW11.out).mono ?_
  rintro e12 w12 ⟨rfl, rd12, m12⟩
  have K3c : Kp W3 w12 := m12.kp K3b (by omega)
  have f7 := cell12_high m12 ht6 F11.out
  have F12 := Lib.hid f7
  have RD := Lib.hid rd12
  clear rd12 m12 OW11 K3b g7 F11
  go_wp2_with fail
  refine (MK.out.hd _ RD.out).mono ?_
  rintro e13 w13 ⟨rfl, k13⟩
  have RD2 := Lib.hid (MK.out.rk _ _ RD.out k13)
  have K3d : Kp W3 w13 := K3c.trans k13
  have F13 := Lib.hid (cell12_keep k13 F12.out)
  have s13 := keep12k K3d HS3.out
  clear K3c k13 RD F12 f7 HS3
  go_wp2_with fail
  refine (toBoard_any _ _ _ _ _ _ l m _ _ _ _ _ _ _ _ _ _ lt lr ld mt mr md _ (RA.out.keep s13.2.2.2.2.2.2.2.2.2.2.2.2) HE1.out HE2.out HE3.out).mono ?_
  rintro e14 w14 ⟨g1d, g2d, csd, ysd, zsd, A1d, c1d, A2d, c2d, A3d, c3d, rfl, o14, k14⟩
  have s14 := keep12k k14 s13
  have L14 := Lib.hid (o14.at RA.out)
  clear s13 o14
  go_wp2_with fail
  refine (CI.out _ _ _ _ _ _ _ _ (HS.out.keep s14.2.2.2.2.2.2.2.2.2.2.2.2) (HT.out.keep s14.2.2.2.2.2.2.2.2.2.2.2.2) L14.out).mono ?_
  rintro e15 w15 ⟨C1, p1, C2, p2, C3, p3, C4, p4, C5, p5, base2, top2, own2, rd2, kk2, rfl, rb2, mk2, ow2, _, _, k15⟩
  have kh : Kp w15 (w15.alloc (.cells #[.slice C1 N1 p1, .slice C2 N2 p2, .int .i64 a', .int .i64 b', .int .i64 c', .int .i64 d', .int .i64 e', .int .i64 W', .int .i64 H', .slice C3 n3 p3, .slice C4 n4 p4, .slice C5 n5 p5] 38)) := (Kp.refl w15).alloc _
  have f12 := new12 w15 (.slice C1 N1 p1) (.slice C2 N2 p2) (.int .i64 a') (.int .i64 b') (.int .i64 c') (.int .i64 d') (.int .i64 e') (.int .i64 W') (.int .i64 H') (.slice C3 n3 p3) (.slice C4 n4 p4) (.slice C5 n5 p5) 38
  have RC := Lib.hid (rb2 _ (mk2.ok _ _ ow2 kh))
  have K13 : Kp w13 (w15.alloc (.cells #[.slice C1 N1 p1, .slice C2 N2 p2, .int .i64 a', .int .i64 b', .int .i64 c', .int .i64 d', .int .i64 e', .int .i64 W', .int .i64 H', .slice C3 n3 p3, .slice C4 n4 p4, .slice C5 n5 p5] 38)) := (k14.trans k15).trans kh
  have Kw : Kp w (w15.alloc (.cells #[.slice C1 N1 p1, .slice C2 N2 p2, .int .i64 a', .int .i64 b', .int .i64 c', .int .i64 d', .int .i64 e', .int .i64 W', .int .i64 H', .slice C3 n3 p3, .slice C4 n4 p4, .slice C5 n5 p5] 38)) := (s14.2.2.2.2.2.2.2.2.2.2.2.2.trans k15).trans kh
  have f4 := cell12_keep (K3d.trans K13) F4.out
  clear k15 k14 s14 L14 rb2 mk2 ow2 kh
  go_wp2_with fail
  refine (eqBoard_same _ _ _ _ _ _ _ _ _ _ L M _ _ _ _ _ _ _ _ _ _ _ _ _ T' R' D' _ (RC.out) (R0.out.keep (K3d.trans K13))).mono ?_
  rintro e16 w16 ⟨rfl, k16⟩
  have RD3 := Lib.hid (MK.out.rk _ _ RD2.out (K13.trans k16))
  have f7 := cell12_keep (K13.trans k16) F13.out
  have Kx : Kp w w16 := Kw.trans k16
  clear RD2 K13 Kw RC k16 f12 f4 F13
  go_wp2_with fail
  refine (MK.out.hd _ RD3.out).mono ?_
  rintro e17 w17 ⟨rfl, k17⟩
  go_wp2_with fail
  go_ret
  exact ⟨rfl, Kx.trans k17⟩

set_option maxRecDepth 100000 in
theorem contract (H : Type) (enc : TypeId × Value → H) (W : World) (base : Nat) (args : Array Value) (ds gs : List (DataW H)) (before : List MemPlace)
    (hval : ∀ (j : Nat) t v, Tryz.f3.params[j]? = some t → args[j]? = some v → Value.okWide Tryz.prog W .any base t v)
    (hW : DataW.Whole enc Tryz.prog Tryz.f3.params.toList Rows.fnExactMirrorBoardSpec.vars false W args.toList ds gs before) (hL : laidMetH Tryz.prog Rows.fnExactMirrorBoardRow.laid W) :
    Calls Tryz.prog 3 args W fun e W' => ∃ v, e = .returned v ∧ Rows.fnExactMirrorBoardSpec.post enc Tryz.prog Tryz.f3 false true false false W args v W' := by
  have hW' := hW
  obtain ⟨p, q, hA0, hV, rfl, hfz, hnd⟩ := hW
  have hA : DataW.TrodAll enc Tryz.prog W 0 (fun _ => true) true Tryz.f3.params.toList args.toList ds p := hA0
  rw [Tryz.params3] at hA hval
  obtain ⟨v0, d0, rfl, rfl, h0⟩ := trodAll_one hA
  obtain ⟨_, _, _, _, _, _, _, _, _, _, _, _, _, _, _, rfl⟩ := len15 (trodVars_len hV)
  obtain ⟨At0, Ak0, nt0, nk0, ct0, ck0, l0, m0, a0, b0, c0, d0, e0, W0, H0, x0, r0, y0, lt0, lr0, ld0, rfl, hR0, hI0⟩ := open_board (hval 0 30 v0 rfl rfl) h0
  refine (walk At0 Ak0 nt0 nk0 ct0 ck0 l0 m0 a0 b0 c0 d0 e0 W0 H0 x0 r0 y0 lt0 lr0 ld0 W (spans15 hL) (tab15 hL) hR0).mono fun e W' ⟨he, hg⟩ => ?_
  subst he
  exact ⟨_, rfl, law_post hW' laidOut (by kernel_rfl) (by kernel_rfl) (by kernel_rfl) Tryz.underlying4 rfl hg⟩

theorem laid_met (os : Os) : laidMet Tryz.prog Rows.fnExactMirrorBoardRow.laid ((laidWorldS os).forCall (fun _ _ => 0) ⟨#[], #[.agg #[.slice none 0 0, .slice none 0 0, .int .i64 0, .int .i64 0, .int .i64 0, .int .i64 0, .int .i64 0, .int .i64 0, .int .i64 0, .slice none 0 0, .slice none 0 0, .slice none 0 0]], []⟩).memory :=
  laidMet_of_run' 8 (by kernel_rfl) (by kernel_rfl)
theorem reads (os : Os) {H : Type} (enc : TypeId × Value → H) : ∃ ds gs places, DataW.whole enc Tryz.prog ((laidWorldS os).forCall (fun _ _ => 0) ⟨#[], #[.agg #[.slice none 0 0, .slice none 0 0, .int .i64 0, .int .i64 0, .int .i64 0, .int .i64 0, .int .i64 0, .int .i64 0, .int .i64 0, .slice none 0 0, .slice none 0 0, .slice none 0 0]], []⟩).memory Tryz.f3.params.toList Rows.fnExactMirrorBoardSpec.vars false #[.agg #[.slice none 0 0, .slice none 0 0, .int .i64 0, .int .i64 0, .int .i64 0, .int .i64 0, .int .i64 0, .int .i64 0, .int .i64 0, .slice none 0 0, .slice none 0 0, .slice none 0 0]].toList 8 = some (ds, gs, places) :=
  ⟨[.agg [.agg [.nil, .nil, .lit (.int .i64 0), .lit (.int .i64 0), .lit (.int .i64 0), .lit (.int .i64 0), .lit (.int .i64 0)], .agg [.lit (.int .i64 0), .lit (.int .i64 0), .nil, .nil, .nil]]], [Rows.laid_loop_example_g00886_impl_terrainsSpan, Rows.laid_loop_example_g00886_impl_kindsSpan, Rows.laid_loop_example_g00886_impl_stackSpan, Rows.laid_loop_example_g00886_impl_riverSpan, Rows.laid_loop_example_g00886_impl_roadSpan, Rows.laid_loop_example_g00886_impl_supplySpan, Rows.laid_loop_example_g00886_impl_turnsSpan, Rows.laid_loop_example_g00886_impl_costSpan, Rows.laid_loop_example_g00886_impl_shiftSpan, Rows.laid_loop_example_g00886_impl_heightSpan, Rows.laid_loop_example_g00886_impl_strengthSpan, Rows.laid_loop_example_g00886_impl_movesSpan, Rows.laid_loop_example_g00886_impl_stepsSpan, Rows.laid_loop_example_g00886_impl_viewSpan, Rows.laid_loop_example_g00886_impl_directionSteps], MemPlace.row ⟨0, 0, none⟩ 2 ++ (MemPlace.row ⟨1, 0, none⟩ 2 ++ (MemPlace.row ⟨2, 0, none⟩ 2 ++ (MemPlace.row ⟨3, 0, none⟩ 2 ++ (MemPlace.row ⟨4, 0, none⟩ 2 ++ (MemPlace.row ⟨5, 0, none⟩ 2 ++ (MemPlace.row ⟨6, 0, none⟩ 2 ++ (MemPlace.row ⟨7, 0, none⟩ 2 ++ (MemPlace.row ⟨8, 0, none⟩ 2 ++ (MemPlace.row ⟨9, 0, none⟩ 2 ++ (MemPlace.row ⟨10, 0, none⟩ 2 ++ (MemPlace.row ⟨11, 0, none⟩ 2 ++ (MemPlace.row ⟨12, 0, none⟩ 2 ++ (MemPlace.row ⟨13, 0, none⟩ 2 ++ (MemPlace.row ⟨14, 0, none⟩ 12)))))))))))))), by kernel_rfl⟩

set_option maxRecDepth 100000 in
theorem lifted (os : Os) (started : os.Started) (H : Type) (enc : TypeId × Value → H) (F : Stop.Interp) :
    ReturnsInHanded {} Tryz.checked os 3 .any ((OpenSpec.ofChange Rows.fnExactMirrorBoardSpec).preRow enc Tryz.prog Tryz.f3 Rows.fnExactMirrorBoardRow.domain false Rows.fnExactMirrorBoardRow.laid) (((OpenSpec.ofChange Rows.fnExactMirrorBoardSpec).at F).post enc Tryz.prog Tryz.f3 false true false false) := by
  obtain ⟨ds, gs, places, hx⟩ := reads os enc
  refine returnsInHanded_of_row (C := Tryz.checked) (s := OpenSpec.ofChange Rows.fnExactMirrorBoardSpec) own started (by kernel_rfl) Tryz.func3
    (witness_row_at (enc := enc) (C := Tryz.checked) false (laidWorldS os) #[.agg #[.slice none 0 0, .slice none 0 0, .int .i64 0, .int .i64 0, .int .i64 0, .int .i64 0, .int .i64 0, .int .i64 0, .int .i64 0, .slice none 0 0, .slice none 0 0, .slice none 0 0]] rfl (by kernel_rfl) (by kernel_rfl) (by kernel_rfl)
      (OpenSpec.preRow_of_cond 8 hx (by kernel_rfl) (fun k hk => by cases hk) (by kernel_rfl) (laid_met os))) ?_
  intro W base args ds gs before hval hW _ _ _ hL _ _
  exact contract H enc W base args ds gs before hval hW hL

theorem said : Rows.FnExactMirrorBoardSaid :=
  OpenClaim.holds_of_cond 3 Tryz.f3 rfl rfl rfl rfl rfl rfl rfl ⟨rfl, rfl, rfl, rfl, rfl⟩ rfl rfl rfl rfl rfl (by kernel_rfl) Tryz.func3 (by kernel_rfl)
    (of_decide_eq_true (by kernel_rfl)) (by unfold Func.isWrapper; first | (rw [if_pos (by decide +kernel)]; kernel_rfl) | (rw [if_neg (by decide +kernel)]; exact ⟨rfl, rfl⟩))
    (fun os started H enc _ F => by rw [OpenClaim.pre_eq_preRow]; exact lifted os started H enc F)

theorem plain (f : FuncId) (fn : Func) (hf : Tryz.pinned.checked.prog.funcNamed "loop.example/g00886/laws.FnExactMirrorBoard" = some f) (hfn : Tryz.pinned.checked.prog.funcs[f]? = some fn) :
    false = Tryz.pinned.checked.prog.looks [] ∧ ∀ (j : Nat) t, fn.params[j]? = some t → Tryz.pinned.checked.prog.wantsStandIn t = false := by
  obtain rfl : f = 3 := Option.some.inj ((show Tryz.prog.funcNamed "loop.example/g00886/laws.FnExactMirrorBoard" = some 3 by kernel_rfl).symm.trans hf) |>.symm
  obtain rfl : fn = Tryz.f3 := (Option.some.inj (Tryz.func3.symm.trans hfn)).symm
  refine ⟨by kernel_rfl, fun j t ht => ?_⟩
  rw [Tryz.params3] at ht
  have hm := Array.mem_of_getElem? ht
  simp only [List.mem_toArray, List.mem_cons, List.not_mem_nil, or_false] at hm
  subst hm
  exact (show Tryz.prog.wantsStandIn 30 = false by kernel_rfl)

/-- The card: the row, with what it lists tied to the program's text. -/
theorem card : Rows.FnExactMirrorBoardCardSaid :=
  Claim7.holds_tied_plain_at .later [] _ _ _ _ said (fun _ h => by cases h) (by kernel_rfl) (fun _ h => by cases h) fnExactMirrorBoard_row_tie rfl ⟨rfl, rfl⟩ (by kernel_rfl) rfl plain (by kernel_rfl)
#print axioms card

end Go.Proofs.YtmolpkjdjkhnpaaGreatDoor.mirrorBoardLaw
