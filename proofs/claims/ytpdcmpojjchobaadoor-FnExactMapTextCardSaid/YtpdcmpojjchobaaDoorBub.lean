/-
  Texts of this seat in one module: Span, RulW, RulI, IsRulesI, MapM, MapI, MapJ, MapK, MapS.
-/
import Derived.Deep.RegionHeld3
import Derived.Test.YtpdcmpojjchobaaDoorBua

/-
  The program's ranges of permitted numbers: what its variables hold, and the functions that ask whether numbers lie in them. Nothing that was there is changed.
-/
namespace Go.Proofs.YtpdcmpojjchobaaDoor
open Go.RowKit

/-- The program's ranges, as its text lays them. -/
structure Spans (w : World) : Prop where
  terrains : SpanAt w 2 1 6
  cost : SpanAt w 9 0 9
  shift : SpanAt w 10 (-3) 3
  height : SpanAt w 11 0 3
  kinds : SpanAt w 3 1 4
  strength : SpanAt w 12 1 9
  moves : SpanAt w 13 0 9
  steps : SpanAt w 14 1 4
  view : SpanAt w 15 0 4
  stack : SpanAt w 4 1 4
  river : SpanAt w 5 0 9
  road : SpanAt w 6 1 9
  supply : SpanAt w 7 0 20
  turns : SpanAt w 8 1 30
theorem Spans.keep {w w' : World} (h : Spans w) (k : Kp w w') : Spans w' :=
  ⟨⟨k.cell h.terrains.1, k.cell h.terrains.2⟩, ⟨k.cell h.cost.1, k.cell h.cost.2⟩, ⟨k.cell h.shift.1, k.cell h.shift.2⟩, ⟨k.cell h.height.1, k.cell h.height.2⟩, ⟨k.cell h.kinds.1, k.cell h.kinds.2⟩, ⟨k.cell h.strength.1, k.cell h.strength.2⟩, ⟨k.cell h.moves.1, k.cell h.moves.2⟩, ⟨k.cell h.steps.1, k.cell h.steps.2⟩, ⟨k.cell h.view.1, k.cell h.view.2⟩, ⟨k.cell h.stack.1, k.cell h.stack.2⟩, ⟨k.cell h.river.1, k.cell h.river.2⟩, ⟨k.cell h.road.1, k.cell h.road.2⟩, ⟨k.cell h.supply.1, k.cell h.supply.2⟩, ⟨k.cell h.turns.1, k.cell h.turns.2⟩⟩

abbrev rv (t k : Value) (a b c d e : Int) : Value := .agg #[t, k, .int .i64 a, .int .i64 b, .int .i64 c, .int .i64 d, .int .i64 e]

set_option maxRecDepth 100000 in
set_option maxHeartbeats 4000000 in
theorem lim_no1 (t k : Value) (a b c d e : Int) (w : World) (hs : Spans w) (h0 : spB 1 4 a = false) :
    Calls Tryd.prog 74 #[rv t k a b c d e] w fun e' w' => e' = .returned (.bool false) ∧ Kp w w' := by
  have s0 : (w.alloc (.cells #[t, k, .int .i64 a, .int .i64 b, .int .i64 c, .int .i64 d, .int .i64 e] 32)).cell? ⟨w.heap.size, 0, none⟩ = some (t) ∧ (w.alloc (.cells #[t, k, .int .i64 a, .int .i64 b, .int .i64 c, .int .i64 d, .int .i64 e] 32)).cell? ⟨w.heap.size, 1, none⟩ = some (k) ∧ (w.alloc (.cells #[t, k, .int .i64 a, .int .i64 b, .int .i64 c, .int .i64 d, .int .i64 e] 32)).cell? ⟨w.heap.size, 2, none⟩ = some (.int .i64 a) ∧ (w.alloc (.cells #[t, k, .int .i64 a, .int .i64 b, .int .i64 c, .int .i64 d, .int .i64 e] 32)).cell? ⟨w.heap.size, 3, none⟩ = some (.int .i64 b) ∧ (w.alloc (.cells #[t, k, .int .i64 a, .int .i64 b, .int .i64 c, .int .i64 d, .int .i64 e] 32)).cell? ⟨w.heap.size, 4, none⟩ = some (.int .i64 c) ∧ (w.alloc (.cells #[t, k, .int .i64 a, .int .i64 b, .int .i64 c, .int .i64 d, .int .i64 e] 32)).cell? ⟨w.heap.size, 5, none⟩ = some (.int .i64 d) ∧ (w.alloc (.cells #[t, k, .int .i64 a, .int .i64 b, .int .i64 c, .int .i64 d, .int .i64 e] 32)).cell? ⟨w.heap.size, 6, none⟩ = some (.int .i64 e) ∧ (w.alloc (.cells #[t, k, .int .i64 a, .int .i64 b, .int .i64 c, .int .i64 d, .int .i64 e] 32)).cell? ⟨4, 0, none⟩ = some (.int .i64 1) ∧ (w.alloc (.cells #[t, k, .int .i64 a, .int .i64 b, .int .i64 c, .int .i64 d, .int .i64 e] 32)).cell? ⟨4, 1, none⟩ = some (.int .i64 4) ∧ (w.alloc (.cells #[t, k, .int .i64 a, .int .i64 b, .int .i64 c, .int .i64 d, .int .i64 e] 32)).cell? ⟨5, 0, none⟩ = some (.int .i64 0) ∧ (w.alloc (.cells #[t, k, .int .i64 a, .int .i64 b, .int .i64 c, .int .i64 d, .int .i64 e] 32)).cell? ⟨5, 1, none⟩ = some (.int .i64 9) ∧ (w.alloc (.cells #[t, k, .int .i64 a, .int .i64 b, .int .i64 c, .int .i64 d, .int .i64 e] 32)).cell? ⟨6, 0, none⟩ = some (.int .i64 1) ∧ (w.alloc (.cells #[t, k, .int .i64 a, .int .i64 b, .int .i64 c, .int .i64 d, .int .i64 e] 32)).cell? ⟨6, 1, none⟩ = some (.int .i64 9) ∧ (w.alloc (.cells #[t, k, .int .i64 a, .int .i64 b, .int .i64 c, .int .i64 d, .int .i64 e] 32)).cell? ⟨7, 0, none⟩ = some (.int .i64 0) ∧ (w.alloc (.cells #[t, k, .int .i64 a, .int .i64 b, .int .i64 c, .int .i64 d, .int .i64 e] 32)).cell? ⟨7, 1, none⟩ = some (.int .i64 20) ∧ (w.alloc (.cells #[t, k, .int .i64 a, .int .i64 b, .int .i64 c, .int .i64 d, .int .i64 e] 32)).cell? ⟨8, 0, none⟩ = some (.int .i64 1) ∧ (w.alloc (.cells #[t, k, .int .i64 a, .int .i64 b, .int .i64 c, .int .i64 d, .int .i64 e] 32)).cell? ⟨8, 1, none⟩ = some (.int .i64 30) ∧ Kp w (w.alloc (.cells #[t, k, .int .i64 a, .int .i64 b, .int .i64 c, .int .i64 d, .int .i64 e] 32)) :=
    ⟨by simp [go_sem], by simp [go_sem], by simp [go_sem], by simp [go_sem], by simp [go_sem], by simp [go_sem], by simp [go_sem], ((Kp.refl w).alloc _).cell hs.stack.1, ((Kp.refl w).alloc _).cell hs.stack.2, ((Kp.refl w).alloc _).cell hs.river.1, ((Kp.refl w).alloc _).cell hs.river.2, ((Kp.refl w).alloc _).cell hs.road.1, ((Kp.refl w).alloc _).cell hs.road.2, ((Kp.refl w).alloc _).cell hs.supply.1, ((Kp.refl w).alloc _).cell hs.supply.2, ((Kp.refl w).alloc _).cell hs.turns.1, ((Kp.refl w).alloc _).cell hs.turns.2, (Kp.refl w).alloc _⟩
  clear hs
  go_enter Tryd.func74, Tryd.ntmps74
  go_wp2_with fail
  generalize w.alloc (.cells #[t, k, .int .i64 a, .int .i64 b, .int .i64 c, .int .i64 d, .int .i64 e] 32) = W0 at *
  refine (has_any _ _ _ _).mono ?_
  rintro e0 wz0 ⟨rfl, kz0⟩
  have sz0 : wz0.cell? ⟨w.heap.size, 0, none⟩ = some (t) ∧ wz0.cell? ⟨w.heap.size, 1, none⟩ = some (k) ∧ wz0.cell? ⟨w.heap.size, 2, none⟩ = some (.int .i64 a) ∧ wz0.cell? ⟨w.heap.size, 3, none⟩ = some (.int .i64 b) ∧ wz0.cell? ⟨w.heap.size, 4, none⟩ = some (.int .i64 c) ∧ wz0.cell? ⟨w.heap.size, 5, none⟩ = some (.int .i64 d) ∧ wz0.cell? ⟨w.heap.size, 6, none⟩ = some (.int .i64 e) ∧ wz0.cell? ⟨4, 0, none⟩ = some (.int .i64 1) ∧ wz0.cell? ⟨4, 1, none⟩ = some (.int .i64 4) ∧ wz0.cell? ⟨5, 0, none⟩ = some (.int .i64 0) ∧ wz0.cell? ⟨5, 1, none⟩ = some (.int .i64 9) ∧ wz0.cell? ⟨6, 0, none⟩ = some (.int .i64 1) ∧ wz0.cell? ⟨6, 1, none⟩ = some (.int .i64 9) ∧ wz0.cell? ⟨7, 0, none⟩ = some (.int .i64 0) ∧ wz0.cell? ⟨7, 1, none⟩ = some (.int .i64 20) ∧ wz0.cell? ⟨8, 0, none⟩ = some (.int .i64 1) ∧ wz0.cell? ⟨8, 1, none⟩ = some (.int .i64 30) ∧ Kp w wz0 := ⟨kz0.cell s0.1, kz0.cell s0.2.1, kz0.cell s0.2.2.1, kz0.cell s0.2.2.2.1, kz0.cell s0.2.2.2.2.1, kz0.cell s0.2.2.2.2.2.1, kz0.cell s0.2.2.2.2.2.2.1, kz0.cell s0.2.2.2.2.2.2.2.1, kz0.cell s0.2.2.2.2.2.2.2.2.1, kz0.cell s0.2.2.2.2.2.2.2.2.2.1, kz0.cell s0.2.2.2.2.2.2.2.2.2.2.1, kz0.cell s0.2.2.2.2.2.2.2.2.2.2.2.1, kz0.cell s0.2.2.2.2.2.2.2.2.2.2.2.2.1, kz0.cell s0.2.2.2.2.2.2.2.2.2.2.2.2.2.1, kz0.cell s0.2.2.2.2.2.2.2.2.2.2.2.2.2.2.1, kz0.cell s0.2.2.2.2.2.2.2.2.2.2.2.2.2.2.2.1, kz0.cell s0.2.2.2.2.2.2.2.2.2.2.2.2.2.2.2.2.1, s0.2.2.2.2.2.2.2.2.2.2.2.2.2.2.2.2.2.trans kz0⟩
  clear s0 kz0
  go_wp2_with fail
  go_ret
  exact ⟨rfl, sz0.2.2.2.2.2.2.2.2.2.2.2.2.2.2.2.2.2⟩

set_option maxRecDepth 100000 in
set_option maxHeartbeats 4000000 in
theorem lim_no2 (t k : Value) (a b c d e : Int) (w : World) (hs : Spans w) (h0 : spB 1 4 a = true) (h1 : spB 0 9 b = false) :
    Calls Tryd.prog 74 #[rv t k a b c d e] w fun e' w' => e' = .returned (.bool false) ∧ Kp w w' := by
  have s0 : (w.alloc (.cells #[t, k, .int .i64 a, .int .i64 b, .int .i64 c, .int .i64 d, .int .i64 e] 32)).cell? ⟨w.heap.size, 0, none⟩ = some (t) ∧ (w.alloc (.cells #[t, k, .int .i64 a, .int .i64 b, .int .i64 c, .int .i64 d, .int .i64 e] 32)).cell? ⟨w.heap.size, 1, none⟩ = some (k) ∧ (w.alloc (.cells #[t, k, .int .i64 a, .int .i64 b, .int .i64 c, .int .i64 d, .int .i64 e] 32)).cell? ⟨w.heap.size, 2, none⟩ = some (.int .i64 a) ∧ (w.alloc (.cells #[t, k, .int .i64 a, .int .i64 b, .int .i64 c, .int .i64 d, .int .i64 e] 32)).cell? ⟨w.heap.size, 3, none⟩ = some (.int .i64 b) ∧ (w.alloc (.cells #[t, k, .int .i64 a, .int .i64 b, .int .i64 c, .int .i64 d, .int .i64 e] 32)).cell? ⟨w.heap.size, 4, none⟩ = some (.int .i64 c) ∧ (w.alloc (.cells #[t, k, .int .i64 a, .int .i64 b, .int .i64 c, .int .i64 d, .int .i64 e] 32)).cell? ⟨w.heap.size, 5, none⟩ = some (.int .i64 d) ∧ (w.alloc (.cells #[t, k, .int .i64 a, .int .i64 b, .int .i64 c, .int .i64 d, .int .i64 e] 32)).cell? ⟨w.heap.size, 6, none⟩ = some (.int .i64 e) ∧ (w.alloc (.cells #[t, k, .int .i64 a, .int .i64 b, .int .i64 c, .int .i64 d, .int .i64 e] 32)).cell? ⟨4, 0, none⟩ = some (.int .i64 1) ∧ (w.alloc (.cells #[t, k, .int .i64 a, .int .i64 b, .int .i64 c, .int .i64 d, .int .i64 e] 32)).cell? ⟨4, 1, none⟩ = some (.int .i64 4) ∧ (w.alloc (.cells #[t, k, .int .i64 a, .int .i64 b, .int .i64 c, .int .i64 d, .int .i64 e] 32)).cell? ⟨5, 0, none⟩ = some (.int .i64 0) ∧ (w.alloc (.cells #[t, k, .int .i64 a, .int .i64 b, .int .i64 c, .int .i64 d, .int .i64 e] 32)).cell? ⟨5, 1, none⟩ = some (.int .i64 9) ∧ (w.alloc (.cells #[t, k, .int .i64 a, .int .i64 b, .int .i64 c, .int .i64 d, .int .i64 e] 32)).cell? ⟨6, 0, none⟩ = some (.int .i64 1) ∧ (w.alloc (.cells #[t, k, .int .i64 a, .int .i64 b, .int .i64 c, .int .i64 d, .int .i64 e] 32)).cell? ⟨6, 1, none⟩ = some (.int .i64 9) ∧ (w.alloc (.cells #[t, k, .int .i64 a, .int .i64 b, .int .i64 c, .int .i64 d, .int .i64 e] 32)).cell? ⟨7, 0, none⟩ = some (.int .i64 0) ∧ (w.alloc (.cells #[t, k, .int .i64 a, .int .i64 b, .int .i64 c, .int .i64 d, .int .i64 e] 32)).cell? ⟨7, 1, none⟩ = some (.int .i64 20) ∧ (w.alloc (.cells #[t, k, .int .i64 a, .int .i64 b, .int .i64 c, .int .i64 d, .int .i64 e] 32)).cell? ⟨8, 0, none⟩ = some (.int .i64 1) ∧ (w.alloc (.cells #[t, k, .int .i64 a, .int .i64 b, .int .i64 c, .int .i64 d, .int .i64 e] 32)).cell? ⟨8, 1, none⟩ = some (.int .i64 30) ∧ Kp w (w.alloc (.cells #[t, k, .int .i64 a, .int .i64 b, .int .i64 c, .int .i64 d, .int .i64 e] 32)) :=
    ⟨by simp [go_sem], by simp [go_sem], by simp [go_sem], by simp [go_sem], by simp [go_sem], by simp [go_sem], by simp [go_sem], ((Kp.refl w).alloc _).cell hs.stack.1, ((Kp.refl w).alloc _).cell hs.stack.2, ((Kp.refl w).alloc _).cell hs.river.1, ((Kp.refl w).alloc _).cell hs.river.2, ((Kp.refl w).alloc _).cell hs.road.1, ((Kp.refl w).alloc _).cell hs.road.2, ((Kp.refl w).alloc _).cell hs.supply.1, ((Kp.refl w).alloc _).cell hs.supply.2, ((Kp.refl w).alloc _).cell hs.turns.1, ((Kp.refl w).alloc _).cell hs.turns.2, (Kp.refl w).alloc _⟩
  clear hs
  go_enter Tryd.func74, Tryd.ntmps74
  go_wp2_with fail
  generalize w.alloc (.cells #[t, k, .int .i64 a, .int .i64 b, .int .i64 c, .int .i64 d, .int .i64 e] 32) = W0 at *
  refine (has_any _ _ _ _).mono ?_
  rintro e0 wz0 ⟨rfl, kz0⟩
  have sz0 : wz0.cell? ⟨w.heap.size, 0, none⟩ = some (t) ∧ wz0.cell? ⟨w.heap.size, 1, none⟩ = some (k) ∧ wz0.cell? ⟨w.heap.size, 2, none⟩ = some (.int .i64 a) ∧ wz0.cell? ⟨w.heap.size, 3, none⟩ = some (.int .i64 b) ∧ wz0.cell? ⟨w.heap.size, 4, none⟩ = some (.int .i64 c) ∧ wz0.cell? ⟨w.heap.size, 5, none⟩ = some (.int .i64 d) ∧ wz0.cell? ⟨w.heap.size, 6, none⟩ = some (.int .i64 e) ∧ wz0.cell? ⟨4, 0, none⟩ = some (.int .i64 1) ∧ wz0.cell? ⟨4, 1, none⟩ = some (.int .i64 4) ∧ wz0.cell? ⟨5, 0, none⟩ = some (.int .i64 0) ∧ wz0.cell? ⟨5, 1, none⟩ = some (.int .i64 9) ∧ wz0.cell? ⟨6, 0, none⟩ = some (.int .i64 1) ∧ wz0.cell? ⟨6, 1, none⟩ = some (.int .i64 9) ∧ wz0.cell? ⟨7, 0, none⟩ = some (.int .i64 0) ∧ wz0.cell? ⟨7, 1, none⟩ = some (.int .i64 20) ∧ wz0.cell? ⟨8, 0, none⟩ = some (.int .i64 1) ∧ wz0.cell? ⟨8, 1, none⟩ = some (.int .i64 30) ∧ Kp w wz0 := ⟨kz0.cell s0.1, kz0.cell s0.2.1, kz0.cell s0.2.2.1, kz0.cell s0.2.2.2.1, kz0.cell s0.2.2.2.2.1, kz0.cell s0.2.2.2.2.2.1, kz0.cell s0.2.2.2.2.2.2.1, kz0.cell s0.2.2.2.2.2.2.2.1, kz0.cell s0.2.2.2.2.2.2.2.2.1, kz0.cell s0.2.2.2.2.2.2.2.2.2.1, kz0.cell s0.2.2.2.2.2.2.2.2.2.2.1, kz0.cell s0.2.2.2.2.2.2.2.2.2.2.2.1, kz0.cell s0.2.2.2.2.2.2.2.2.2.2.2.2.1, kz0.cell s0.2.2.2.2.2.2.2.2.2.2.2.2.2.1, kz0.cell s0.2.2.2.2.2.2.2.2.2.2.2.2.2.2.1, kz0.cell s0.2.2.2.2.2.2.2.2.2.2.2.2.2.2.2.1, kz0.cell s0.2.2.2.2.2.2.2.2.2.2.2.2.2.2.2.2.1, s0.2.2.2.2.2.2.2.2.2.2.2.2.2.2.2.2.2.trans kz0⟩
  clear s0 kz0
  go_wp2_with fail
  refine (has_any _ _ _ _).mono ?_
  rintro e1 wz1 ⟨rfl, kz1⟩
  have sz1 : wz1.cell? ⟨w.heap.size, 0, none⟩ = some (t) ∧ wz1.cell? ⟨w.heap.size, 1, none⟩ = some (k) ∧ wz1.cell? ⟨w.heap.size, 2, none⟩ = some (.int .i64 a) ∧ wz1.cell? ⟨w.heap.size, 3, none⟩ = some (.int .i64 b) ∧ wz1.cell? ⟨w.heap.size, 4, none⟩ = some (.int .i64 c) ∧ wz1.cell? ⟨w.heap.size, 5, none⟩ = some (.int .i64 d) ∧ wz1.cell? ⟨w.heap.size, 6, none⟩ = some (.int .i64 e) ∧ wz1.cell? ⟨4, 0, none⟩ = some (.int .i64 1) ∧ wz1.cell? ⟨4, 1, none⟩ = some (.int .i64 4) ∧ wz1.cell? ⟨5, 0, none⟩ = some (.int .i64 0) ∧ wz1.cell? ⟨5, 1, none⟩ = some (.int .i64 9) ∧ wz1.cell? ⟨6, 0, none⟩ = some (.int .i64 1) ∧ wz1.cell? ⟨6, 1, none⟩ = some (.int .i64 9) ∧ wz1.cell? ⟨7, 0, none⟩ = some (.int .i64 0) ∧ wz1.cell? ⟨7, 1, none⟩ = some (.int .i64 20) ∧ wz1.cell? ⟨8, 0, none⟩ = some (.int .i64 1) ∧ wz1.cell? ⟨8, 1, none⟩ = some (.int .i64 30) ∧ Kp w wz1 := ⟨kz1.cell sz0.1, kz1.cell sz0.2.1, kz1.cell sz0.2.2.1, kz1.cell sz0.2.2.2.1, kz1.cell sz0.2.2.2.2.1, kz1.cell sz0.2.2.2.2.2.1, kz1.cell sz0.2.2.2.2.2.2.1, kz1.cell sz0.2.2.2.2.2.2.2.1, kz1.cell sz0.2.2.2.2.2.2.2.2.1, kz1.cell sz0.2.2.2.2.2.2.2.2.2.1, kz1.cell sz0.2.2.2.2.2.2.2.2.2.2.1, kz1.cell sz0.2.2.2.2.2.2.2.2.2.2.2.1, kz1.cell sz0.2.2.2.2.2.2.2.2.2.2.2.2.1, kz1.cell sz0.2.2.2.2.2.2.2.2.2.2.2.2.2.1, kz1.cell sz0.2.2.2.2.2.2.2.2.2.2.2.2.2.2.1, kz1.cell sz0.2.2.2.2.2.2.2.2.2.2.2.2.2.2.2.1, kz1.cell sz0.2.2.2.2.2.2.2.2.2.2.2.2.2.2.2.2.1, sz0.2.2.2.2.2.2.2.2.2.2.2.2.2.2.2.2.2.trans kz1⟩
  clear sz0 kz1
  go_wp2_with fail
  go_ret
  exact ⟨rfl, sz1.2.2.2.2.2.2.2.2.2.2.2.2.2.2.2.2.2⟩

set_option maxRecDepth 100000 in
set_option maxHeartbeats 4000000 in
theorem lim_no3 (t k : Value) (a b c d e : Int) (w : World) (hs : Spans w) (h0 : spB 1 4 a = true) (h1 : spB 0 9 b = true) (h2 : spB 1 9 c = false) :
    Calls Tryd.prog 74 #[rv t k a b c d e] w fun e' w' => e' = .returned (.bool false) ∧ Kp w w' := by
  have s0 : (w.alloc (.cells #[t, k, .int .i64 a, .int .i64 b, .int .i64 c, .int .i64 d, .int .i64 e] 32)).cell? ⟨w.heap.size, 0, none⟩ = some (t) ∧ (w.alloc (.cells #[t, k, .int .i64 a, .int .i64 b, .int .i64 c, .int .i64 d, .int .i64 e] 32)).cell? ⟨w.heap.size, 1, none⟩ = some (k) ∧ (w.alloc (.cells #[t, k, .int .i64 a, .int .i64 b, .int .i64 c, .int .i64 d, .int .i64 e] 32)).cell? ⟨w.heap.size, 2, none⟩ = some (.int .i64 a) ∧ (w.alloc (.cells #[t, k, .int .i64 a, .int .i64 b, .int .i64 c, .int .i64 d, .int .i64 e] 32)).cell? ⟨w.heap.size, 3, none⟩ = some (.int .i64 b) ∧ (w.alloc (.cells #[t, k, .int .i64 a, .int .i64 b, .int .i64 c, .int .i64 d, .int .i64 e] 32)).cell? ⟨w.heap.size, 4, none⟩ = some (.int .i64 c) ∧ (w.alloc (.cells #[t, k, .int .i64 a, .int .i64 b, .int .i64 c, .int .i64 d, .int .i64 e] 32)).cell? ⟨w.heap.size, 5, none⟩ = some (.int .i64 d) ∧ (w.alloc (.cells #[t, k, .int .i64 a, .int .i64 b, .int .i64 c, .int .i64 d, .int .i64 e] 32)).cell? ⟨w.heap.size, 6, none⟩ = some (.int .i64 e) ∧ (w.alloc (.cells #[t, k, .int .i64 a, .int .i64 b, .int .i64 c, .int .i64 d, .int .i64 e] 32)).cell? ⟨4, 0, none⟩ = some (.int .i64 1) ∧ (w.alloc (.cells #[t, k, .int .i64 a, .int .i64 b, .int .i64 c, .int .i64 d, .int .i64 e] 32)).cell? ⟨4, 1, none⟩ = some (.int .i64 4) ∧ (w.alloc (.cells #[t, k, .int .i64 a, .int .i64 b, .int .i64 c, .int .i64 d, .int .i64 e] 32)).cell? ⟨5, 0, none⟩ = some (.int .i64 0) ∧ (w.alloc (.cells #[t, k, .int .i64 a, .int .i64 b, .int .i64 c, .int .i64 d, .int .i64 e] 32)).cell? ⟨5, 1, none⟩ = some (.int .i64 9) ∧ (w.alloc (.cells #[t, k, .int .i64 a, .int .i64 b, .int .i64 c, .int .i64 d, .int .i64 e] 32)).cell? ⟨6, 0, none⟩ = some (.int .i64 1) ∧ (w.alloc (.cells #[t, k, .int .i64 a, .int .i64 b, .int .i64 c, .int .i64 d, .int .i64 e] 32)).cell? ⟨6, 1, none⟩ = some (.int .i64 9) ∧ (w.alloc (.cells #[t, k, .int .i64 a, .int .i64 b, .int .i64 c, .int .i64 d, .int .i64 e] 32)).cell? ⟨7, 0, none⟩ = some (.int .i64 0) ∧ (w.alloc (.cells #[t, k, .int .i64 a, .int .i64 b, .int .i64 c, .int .i64 d, .int .i64 e] 32)).cell? ⟨7, 1, none⟩ = some (.int .i64 20) ∧ (w.alloc (.cells #[t, k, .int .i64 a, .int .i64 b, .int .i64 c, .int .i64 d, .int .i64 e] 32)).cell? ⟨8, 0, none⟩ = some (.int .i64 1) ∧ (w.alloc (.cells #[t, k, .int .i64 a, .int .i64 b, .int .i64 c, .int .i64 d, .int .i64 e] 32)).cell? ⟨8, 1, none⟩ = some (.int .i64 30) ∧ Kp w (w.alloc (.cells #[t, k, .int .i64 a, .int .i64 b, .int .i64 c, .int .i64 d, .int .i64 e] 32)) :=
    ⟨by simp [go_sem], by simp [go_sem], by simp [go_sem], by simp [go_sem], by simp [go_sem], by simp [go_sem], by simp [go_sem], ((Kp.refl w).alloc _).cell hs.stack.1, ((Kp.refl w).alloc _).cell hs.stack.2, ((Kp.refl w).alloc _).cell hs.river.1, ((Kp.refl w).alloc _).cell hs.river.2, ((Kp.refl w).alloc _).cell hs.road.1, ((Kp.refl w).alloc _).cell hs.road.2, ((Kp.refl w).alloc _).cell hs.supply.1, ((Kp.refl w).alloc _).cell hs.supply.2, ((Kp.refl w).alloc _).cell hs.turns.1, ((Kp.refl w).alloc _).cell hs.turns.2, (Kp.refl w).alloc _⟩
  clear hs
  go_enter Tryd.func74, Tryd.ntmps74
  go_wp2_with fail
  generalize w.alloc (.cells #[t, k, .int .i64 a, .int .i64 b, .int .i64 c, .int .i64 d, .int .i64 e] 32) = W0 at *
  refine (has_any _ _ _ _).mono ?_
  rintro e0 wz0 ⟨rfl, kz0⟩
  have sz0 : wz0.cell? ⟨w.heap.size, 0, none⟩ = some (t) ∧ wz0.cell? ⟨w.heap.size, 1, none⟩ = some (k) ∧ wz0.cell? ⟨w.heap.size, 2, none⟩ = some (.int .i64 a) ∧ wz0.cell? ⟨w.heap.size, 3, none⟩ = some (.int .i64 b) ∧ wz0.cell? ⟨w.heap.size, 4, none⟩ = some (.int .i64 c) ∧ wz0.cell? ⟨w.heap.size, 5, none⟩ = some (.int .i64 d) ∧ wz0.cell? ⟨w.heap.size, 6, none⟩ = some (.int .i64 e) ∧ wz0.cell? ⟨4, 0, none⟩ = some (.int .i64 1) ∧ wz0.cell? ⟨4, 1, none⟩ = some (.int .i64 4) ∧ wz0.cell? ⟨5, 0, none⟩ = some (.int .i64 0) ∧ wz0.cell? ⟨5, 1, none⟩ = some (.int .i64 9) ∧ wz0.cell? ⟨6, 0, none⟩ = some (.int .i64 1) ∧ wz0.cell? ⟨6, 1, none⟩ = some (.int .i64 9) ∧ wz0.cell? ⟨7, 0, none⟩ = some (.int .i64 0) ∧ wz0.cell? ⟨7, 1, none⟩ = some (.int .i64 20) ∧ wz0.cell? ⟨8, 0, none⟩ = some (.int .i64 1) ∧ wz0.cell? ⟨8, 1, none⟩ = some (.int .i64 30) ∧ Kp w wz0 := ⟨kz0.cell s0.1, kz0.cell s0.2.1, kz0.cell s0.2.2.1, kz0.cell s0.2.2.2.1, kz0.cell s0.2.2.2.2.1, kz0.cell s0.2.2.2.2.2.1, kz0.cell s0.2.2.2.2.2.2.1, kz0.cell s0.2.2.2.2.2.2.2.1, kz0.cell s0.2.2.2.2.2.2.2.2.1, kz0.cell s0.2.2.2.2.2.2.2.2.2.1, kz0.cell s0.2.2.2.2.2.2.2.2.2.2.1, kz0.cell s0.2.2.2.2.2.2.2.2.2.2.2.1, kz0.cell s0.2.2.2.2.2.2.2.2.2.2.2.2.1, kz0.cell s0.2.2.2.2.2.2.2.2.2.2.2.2.2.1, kz0.cell s0.2.2.2.2.2.2.2.2.2.2.2.2.2.2.1, kz0.cell s0.2.2.2.2.2.2.2.2.2.2.2.2.2.2.2.1, kz0.cell s0.2.2.2.2.2.2.2.2.2.2.2.2.2.2.2.2.1, s0.2.2.2.2.2.2.2.2.2.2.2.2.2.2.2.2.2.trans kz0⟩
  clear s0 kz0
  go_wp2_with fail
  refine (has_any _ _ _ _).mono ?_
  rintro e1 wz1 ⟨rfl, kz1⟩
  have sz1 : wz1.cell? ⟨w.heap.size, 0, none⟩ = some (t) ∧ wz1.cell? ⟨w.heap.size, 1, none⟩ = some (k) ∧ wz1.cell? ⟨w.heap.size, 2, none⟩ = some (.int .i64 a) ∧ wz1.cell? ⟨w.heap.size, 3, none⟩ = some (.int .i64 b) ∧ wz1.cell? ⟨w.heap.size, 4, none⟩ = some (.int .i64 c) ∧ wz1.cell? ⟨w.heap.size, 5, none⟩ = some (.int .i64 d) ∧ wz1.cell? ⟨w.heap.size, 6, none⟩ = some (.int .i64 e) ∧ wz1.cell? ⟨4, 0, none⟩ = some (.int .i64 1) ∧ wz1.cell? ⟨4, 1, none⟩ = some (.int .i64 4) ∧ wz1.cell? ⟨5, 0, none⟩ = some (.int .i64 0) ∧ wz1.cell? ⟨5, 1, none⟩ = some (.int .i64 9) ∧ wz1.cell? ⟨6, 0, none⟩ = some (.int .i64 1) ∧ wz1.cell? ⟨6, 1, none⟩ = some (.int .i64 9) ∧ wz1.cell? ⟨7, 0, none⟩ = some (.int .i64 0) ∧ wz1.cell? ⟨7, 1, none⟩ = some (.int .i64 20) ∧ wz1.cell? ⟨8, 0, none⟩ = some (.int .i64 1) ∧ wz1.cell? ⟨8, 1, none⟩ = some (.int .i64 30) ∧ Kp w wz1 := ⟨kz1.cell sz0.1, kz1.cell sz0.2.1, kz1.cell sz0.2.2.1, kz1.cell sz0.2.2.2.1, kz1.cell sz0.2.2.2.2.1, kz1.cell sz0.2.2.2.2.2.1, kz1.cell sz0.2.2.2.2.2.2.1, kz1.cell sz0.2.2.2.2.2.2.2.1, kz1.cell sz0.2.2.2.2.2.2.2.2.1, kz1.cell sz0.2.2.2.2.2.2.2.2.2.1, kz1.cell sz0.2.2.2.2.2.2.2.2.2.2.1, kz1.cell sz0.2.2.2.2.2.2.2.2.2.2.2.1, kz1.cell sz0.2.2.2.2.2.2.2.2.2.2.2.2.1, kz1.cell sz0.2.2.2.2.2.2.2.2.2.2.2.2.2.1, kz1.cell sz0.2.2.2.2.2.2.2.2.2.2.2.2.2.2.1, kz1.cell sz0.2.2.2.2.2.2.2.2.2.2.2.2.2.2.2.1, kz1.cell sz0.2.2.2.2.2.2.2.2.2.2.2.2.2.2.2.2.1, sz0.2.2.2.2.2.2.2.2.2.2.2.2.2.2.2.2.2.trans kz1⟩
  clear sz0 kz1
  go_wp2_with fail
  refine (has_any _ _ _ _).mono ?_
  rintro e2 wz2 ⟨rfl, kz2⟩
  have sz2 : wz2.cell? ⟨w.heap.size, 0, none⟩ = some (t) ∧ wz2.cell? ⟨w.heap.size, 1, none⟩ = some (k) ∧ wz2.cell? ⟨w.heap.size, 2, none⟩ = some (.int .i64 a) ∧ wz2.cell? ⟨w.heap.size, 3, none⟩ = some (.int .i64 b) ∧ wz2.cell? ⟨w.heap.size, 4, none⟩ = some (.int .i64 c) ∧ wz2.cell? ⟨w.heap.size, 5, none⟩ = some (.int .i64 d) ∧ wz2.cell? ⟨w.heap.size, 6, none⟩ = some (.int .i64 e) ∧ wz2.cell? ⟨4, 0, none⟩ = some (.int .i64 1) ∧ wz2.cell? ⟨4, 1, none⟩ = some (.int .i64 4) ∧ wz2.cell? ⟨5, 0, none⟩ = some (.int .i64 0) ∧ wz2.cell? ⟨5, 1, none⟩ = some (.int .i64 9) ∧ wz2.cell? ⟨6, 0, none⟩ = some (.int .i64 1) ∧ wz2.cell? ⟨6, 1, none⟩ = some (.int .i64 9) ∧ wz2.cell? ⟨7, 0, none⟩ = some (.int .i64 0) ∧ wz2.cell? ⟨7, 1, none⟩ = some (.int .i64 20) ∧ wz2.cell? ⟨8, 0, none⟩ = some (.int .i64 1) ∧ wz2.cell? ⟨8, 1, none⟩ = some (.int .i64 30) ∧ Kp w wz2 := ⟨kz2.cell sz1.1, kz2.cell sz1.2.1, kz2.cell sz1.2.2.1, kz2.cell sz1.2.2.2.1, kz2.cell sz1.2.2.2.2.1, kz2.cell sz1.2.2.2.2.2.1, kz2.cell sz1.2.2.2.2.2.2.1, kz2.cell sz1.2.2.2.2.2.2.2.1, kz2.cell sz1.2.2.2.2.2.2.2.2.1, kz2.cell sz1.2.2.2.2.2.2.2.2.2.1, kz2.cell sz1.2.2.2.2.2.2.2.2.2.2.1, kz2.cell sz1.2.2.2.2.2.2.2.2.2.2.2.1, kz2.cell sz1.2.2.2.2.2.2.2.2.2.2.2.2.1, kz2.cell sz1.2.2.2.2.2.2.2.2.2.2.2.2.2.1, kz2.cell sz1.2.2.2.2.2.2.2.2.2.2.2.2.2.2.1, kz2.cell sz1.2.2.2.2.2.2.2.2.2.2.2.2.2.2.2.1, kz2.cell sz1.2.2.2.2.2.2.2.2.2.2.2.2.2.2.2.2.1, sz1.2.2.2.2.2.2.2.2.2.2.2.2.2.2.2.2.2.trans kz2⟩
  clear sz1 kz2
  go_wp2_with fail
  go_ret
  exact ⟨rfl, sz2.2.2.2.2.2.2.2.2.2.2.2.2.2.2.2.2.2⟩

set_option maxRecDepth 100000 in
set_option maxHeartbeats 4000000 in
theorem lim_no4 (t k : Value) (a b c d e : Int) (w : World) (hs : Spans w) (h0 : spB 1 4 a = true) (h1 : spB 0 9 b = true) (h2 : spB 1 9 c = true) (h3 : spB 0 20 d = false) :
    Calls Tryd.prog 74 #[rv t k a b c d e] w fun e' w' => e' = .returned (.bool false) ∧ Kp w w' := by
  have s0 : (w.alloc (.cells #[t, k, .int .i64 a, .int .i64 b, .int .i64 c, .int .i64 d, .int .i64 e] 32)).cell? ⟨w.heap.size, 0, none⟩ = some (t) ∧ (w.alloc (.cells #[t, k, .int .i64 a, .int .i64 b, .int .i64 c, .int .i64 d, .int .i64 e] 32)).cell? ⟨w.heap.size, 1, none⟩ = some (k) ∧ (w.alloc (.cells #[t, k, .int .i64 a, .int .i64 b, .int .i64 c, .int .i64 d, .int .i64 e] 32)).cell? ⟨w.heap.size, 2, none⟩ = some (.int .i64 a) ∧ (w.alloc (.cells #[t, k, .int .i64 a, .int .i64 b, .int .i64 c, .int .i64 d, .int .i64 e] 32)).cell? ⟨w.heap.size, 3, none⟩ = some (.int .i64 b) ∧ (w.alloc (.cells #[t, k, .int .i64 a, .int .i64 b, .int .i64 c, .int .i64 d, .int .i64 e] 32)).cell? ⟨w.heap.size, 4, none⟩ = some (.int .i64 c) ∧ (w.alloc (.cells #[t, k, .int .i64 a, .int .i64 b, .int .i64 c, .int .i64 d, .int .i64 e] 32)).cell? ⟨w.heap.size, 5, none⟩ = some (.int .i64 d) ∧ (w.alloc (.cells #[t, k, .int .i64 a, .int .i64 b, .int .i64 c, .int .i64 d, .int .i64 e] 32)).cell? ⟨w.heap.size, 6, none⟩ = some (.int .i64 e) ∧ (w.alloc (.cells #[t, k, .int .i64 a, .int .i64 b, .int .i64 c, .int .i64 d, .int .i64 e] 32)).cell? ⟨4, 0, none⟩ = some (.int .i64 1) ∧ (w.alloc (.cells #[t, k, .int .i64 a, .int .i64 b, .int .i64 c, .int .i64 d, .int .i64 e] 32)).cell? ⟨4, 1, none⟩ = some (.int .i64 4) ∧ (w.alloc (.cells #[t, k, .int .i64 a, .int .i64 b, .int .i64 c, .int .i64 d, .int .i64 e] 32)).cell? ⟨5, 0, none⟩ = some (.int .i64 0) ∧ (w.alloc (.cells #[t, k, .int .i64 a, .int .i64 b, .int .i64 c, .int .i64 d, .int .i64 e] 32)).cell? ⟨5, 1, none⟩ = some (.int .i64 9) ∧ (w.alloc (.cells #[t, k, .int .i64 a, .int .i64 b, .int .i64 c, .int .i64 d, .int .i64 e] 32)).cell? ⟨6, 0, none⟩ = some (.int .i64 1) ∧ (w.alloc (.cells #[t, k, .int .i64 a, .int .i64 b, .int .i64 c, .int .i64 d, .int .i64 e] 32)).cell? ⟨6, 1, none⟩ = some (.int .i64 9) ∧ (w.alloc (.cells #[t, k, .int .i64 a, .int .i64 b, .int .i64 c, .int .i64 d, .int .i64 e] 32)).cell? ⟨7, 0, none⟩ = some (.int .i64 0) ∧ (w.alloc (.cells #[t, k, .int .i64 a, .int .i64 b, .int .i64 c, .int .i64 d, .int .i64 e] 32)).cell? ⟨7, 1, none⟩ = some (.int .i64 20) ∧ (w.alloc (.cells #[t, k, .int .i64 a, .int .i64 b, .int .i64 c, .int .i64 d, .int .i64 e] 32)).cell? ⟨8, 0, none⟩ = some (.int .i64 1) ∧ (w.alloc (.cells #[t, k, .int .i64 a, .int .i64 b, .int .i64 c, .int .i64 d, .int .i64 e] 32)).cell? ⟨8, 1, none⟩ = some (.int .i64 30) ∧ Kp w (w.alloc (.cells #[t, k, .int .i64 a, .int .i64 b, .int .i64 c, .int .i64 d, .int .i64 e] 32)) :=
    ⟨by simp [go_sem], by simp [go_sem], by simp [go_sem], by simp [go_sem], by simp [go_sem], by simp [go_sem], by simp [go_sem], ((Kp.refl w).alloc _).cell hs.stack.1, ((Kp.refl w).alloc _).cell hs.stack.2, ((Kp.refl w).alloc _).cell hs.river.1, ((Kp.refl w).alloc _).cell hs.river.2, ((Kp.refl w).alloc _).cell hs.road.1, ((Kp.refl w).alloc _).cell hs.road.2, ((Kp.refl w).alloc _).cell hs.supply.1, ((Kp.refl w).alloc _).cell hs.supply.2, ((Kp.refl w).alloc _).cell hs.turns.1, ((Kp.refl w).alloc _).cell hs.turns.2, (Kp.refl w).alloc _⟩
  clear hs
  go_enter Tryd.func74, Tryd.ntmps74
  go_wp2_with fail
  generalize w.alloc (.cells #[t, k, .int .i64 a, .int .i64 b, .int .i64 c, .int .i64 d, .int .i64 e] 32) = W0 at *
  refine (has_any _ _ _ _).mono ?_
  rintro e0 wz0 ⟨rfl, kz0⟩
  have sz0 : wz0.cell? ⟨w.heap.size, 0, none⟩ = some (t) ∧ wz0.cell? ⟨w.heap.size, 1, none⟩ = some (k) ∧ wz0.cell? ⟨w.heap.size, 2, none⟩ = some (.int .i64 a) ∧ wz0.cell? ⟨w.heap.size, 3, none⟩ = some (.int .i64 b) ∧ wz0.cell? ⟨w.heap.size, 4, none⟩ = some (.int .i64 c) ∧ wz0.cell? ⟨w.heap.size, 5, none⟩ = some (.int .i64 d) ∧ wz0.cell? ⟨w.heap.size, 6, none⟩ = some (.int .i64 e) ∧ wz0.cell? ⟨4, 0, none⟩ = some (.int .i64 1) ∧ wz0.cell? ⟨4, 1, none⟩ = some (.int .i64 4) ∧ wz0.cell? ⟨5, 0, none⟩ = some (.int .i64 0) ∧ wz0.cell? ⟨5, 1, none⟩ = some (.int .i64 9) ∧ wz0.cell? ⟨6, 0, none⟩ = some (.int .i64 1) ∧ wz0.cell? ⟨6, 1, none⟩ = some (.int .i64 9) ∧ wz0.cell? ⟨7, 0, none⟩ = some (.int .i64 0) ∧ wz0.cell? ⟨7, 1, none⟩ = some (.int .i64 20) ∧ wz0.cell? ⟨8, 0, none⟩ = some (.int .i64 1) ∧ wz0.cell? ⟨8, 1, none⟩ = some (.int .i64 30) ∧ Kp w wz0 := ⟨kz0.cell s0.1, kz0.cell s0.2.1, kz0.cell s0.2.2.1, kz0.cell s0.2.2.2.1, kz0.cell s0.2.2.2.2.1, kz0.cell s0.2.2.2.2.2.1, kz0.cell s0.2.2.2.2.2.2.1, kz0.cell s0.2.2.2.2.2.2.2.1, kz0.cell s0.2.2.2.2.2.2.2.2.1, kz0.cell s0.2.2.2.2.2.2.2.2.2.1, kz0.cell s0.2.2.2.2.2.2.2.2.2.2.1, kz0.cell s0.2.2.2.2.2.2.2.2.2.2.2.1, kz0.cell s0.2.2.2.2.2.2.2.2.2.2.2.2.1, kz0.cell s0.2.2.2.2.2.2.2.2.2.2.2.2.2.1, kz0.cell s0.2.2.2.2.2.2.2.2.2.2.2.2.2.2.1, kz0.cell s0.2.2.2.2.2.2.2.2.2.2.2.2.2.2.2.1, kz0.cell s0.2.2.2.2.2.2.2.2.2.2.2.2.2.2.2.2.1, s0.2.2.2.2.2.2.2.2.2.2.2.2.2.2.2.2.2.trans kz0⟩
  clear s0 kz0
  go_wp2_with fail
  refine (has_any _ _ _ _).mono ?_
  rintro e1 wz1 ⟨rfl, kz1⟩
  have sz1 : wz1.cell? ⟨w.heap.size, 0, none⟩ = some (t) ∧ wz1.cell? ⟨w.heap.size, 1, none⟩ = some (k) ∧ wz1.cell? ⟨w.heap.size, 2, none⟩ = some (.int .i64 a) ∧ wz1.cell? ⟨w.heap.size, 3, none⟩ = some (.int .i64 b) ∧ wz1.cell? ⟨w.heap.size, 4, none⟩ = some (.int .i64 c) ∧ wz1.cell? ⟨w.heap.size, 5, none⟩ = some (.int .i64 d) ∧ wz1.cell? ⟨w.heap.size, 6, none⟩ = some (.int .i64 e) ∧ wz1.cell? ⟨4, 0, none⟩ = some (.int .i64 1) ∧ wz1.cell? ⟨4, 1, none⟩ = some (.int .i64 4) ∧ wz1.cell? ⟨5, 0, none⟩ = some (.int .i64 0) ∧ wz1.cell? ⟨5, 1, none⟩ = some (.int .i64 9) ∧ wz1.cell? ⟨6, 0, none⟩ = some (.int .i64 1) ∧ wz1.cell? ⟨6, 1, none⟩ = some (.int .i64 9) ∧ wz1.cell? ⟨7, 0, none⟩ = some (.int .i64 0) ∧ wz1.cell? ⟨7, 1, none⟩ = some (.int .i64 20) ∧ wz1.cell? ⟨8, 0, none⟩ = some (.int .i64 1) ∧ wz1.cell? ⟨8, 1, none⟩ = some (.int .i64 30) ∧ Kp w wz1 := ⟨kz1.cell sz0.1, kz1.cell sz0.2.1, kz1.cell sz0.2.2.1, kz1.cell sz0.2.2.2.1, kz1.cell sz0.2.2.2.2.1, kz1.cell sz0.2.2.2.2.2.1, kz1.cell sz0.2.2.2.2.2.2.1, kz1.cell sz0.2.2.2.2.2.2.2.1, kz1.cell sz0.2.2.2.2.2.2.2.2.1, kz1.cell sz0.2.2.2.2.2.2.2.2.2.1, kz1.cell sz0.2.2.2.2.2.2.2.2.2.2.1, kz1.cell sz0.2.2.2.2.2.2.2.2.2.2.2.1, kz1.cell sz0.2.2.2.2.2.2.2.2.2.2.2.2.1, kz1.cell sz0.2.2.2.2.2.2.2.2.2.2.2.2.2.1, kz1.cell sz0.2.2.2.2.2.2.2.2.2.2.2.2.2.2.1, kz1.cell sz0.2.2.2.2.2.2.2.2.2.2.2.2.2.2.2.1, kz1.cell sz0.2.2.2.2.2.2.2.2.2.2.2.2.2.2.2.2.1, sz0.2.2.2.2.2.2.2.2.2.2.2.2.2.2.2.2.2.trans kz1⟩
  clear sz0 kz1
  go_wp2_with fail
  refine (has_any _ _ _ _).mono ?_
  rintro e2 wz2 ⟨rfl, kz2⟩
  have sz2 : wz2.cell? ⟨w.heap.size, 0, none⟩ = some (t) ∧ wz2.cell? ⟨w.heap.size, 1, none⟩ = some (k) ∧ wz2.cell? ⟨w.heap.size, 2, none⟩ = some (.int .i64 a) ∧ wz2.cell? ⟨w.heap.size, 3, none⟩ = some (.int .i64 b) ∧ wz2.cell? ⟨w.heap.size, 4, none⟩ = some (.int .i64 c) ∧ wz2.cell? ⟨w.heap.size, 5, none⟩ = some (.int .i64 d) ∧ wz2.cell? ⟨w.heap.size, 6, none⟩ = some (.int .i64 e) ∧ wz2.cell? ⟨4, 0, none⟩ = some (.int .i64 1) ∧ wz2.cell? ⟨4, 1, none⟩ = some (.int .i64 4) ∧ wz2.cell? ⟨5, 0, none⟩ = some (.int .i64 0) ∧ wz2.cell? ⟨5, 1, none⟩ = some (.int .i64 9) ∧ wz2.cell? ⟨6, 0, none⟩ = some (.int .i64 1) ∧ wz2.cell? ⟨6, 1, none⟩ = some (.int .i64 9) ∧ wz2.cell? ⟨7, 0, none⟩ = some (.int .i64 0) ∧ wz2.cell? ⟨7, 1, none⟩ = some (.int .i64 20) ∧ wz2.cell? ⟨8, 0, none⟩ = some (.int .i64 1) ∧ wz2.cell? ⟨8, 1, none⟩ = some (.int .i64 30) ∧ Kp w wz2 := ⟨kz2.cell sz1.1, kz2.cell sz1.2.1, kz2.cell sz1.2.2.1, kz2.cell sz1.2.2.2.1, kz2.cell sz1.2.2.2.2.1, kz2.cell sz1.2.2.2.2.2.1, kz2.cell sz1.2.2.2.2.2.2.1, kz2.cell sz1.2.2.2.2.2.2.2.1, kz2.cell sz1.2.2.2.2.2.2.2.2.1, kz2.cell sz1.2.2.2.2.2.2.2.2.2.1, kz2.cell sz1.2.2.2.2.2.2.2.2.2.2.1, kz2.cell sz1.2.2.2.2.2.2.2.2.2.2.2.1, kz2.cell sz1.2.2.2.2.2.2.2.2.2.2.2.2.1, kz2.cell sz1.2.2.2.2.2.2.2.2.2.2.2.2.2.1, kz2.cell sz1.2.2.2.2.2.2.2.2.2.2.2.2.2.2.1, kz2.cell sz1.2.2.2.2.2.2.2.2.2.2.2.2.2.2.2.1, kz2.cell sz1.2.2.2.2.2.2.2.2.2.2.2.2.2.2.2.2.1, sz1.2.2.2.2.2.2.2.2.2.2.2.2.2.2.2.2.2.trans kz2⟩
  clear sz1 kz2
  go_wp2_with fail
  refine (has_any _ _ _ _).mono ?_
  rintro e3 wz3 ⟨rfl, kz3⟩
  have sz3 : wz3.cell? ⟨w.heap.size, 0, none⟩ = some (t) ∧ wz3.cell? ⟨w.heap.size, 1, none⟩ = some (k) ∧ wz3.cell? ⟨w.heap.size, 2, none⟩ = some (.int .i64 a) ∧ wz3.cell? ⟨w.heap.size, 3, none⟩ = some (.int .i64 b) ∧ wz3.cell? ⟨w.heap.size, 4, none⟩ = some (.int .i64 c) ∧ wz3.cell? ⟨w.heap.size, 5, none⟩ = some (.int .i64 d) ∧ wz3.cell? ⟨w.heap.size, 6, none⟩ = some (.int .i64 e) ∧ wz3.cell? ⟨4, 0, none⟩ = some (.int .i64 1) ∧ wz3.cell? ⟨4, 1, none⟩ = some (.int .i64 4) ∧ wz3.cell? ⟨5, 0, none⟩ = some (.int .i64 0) ∧ wz3.cell? ⟨5, 1, none⟩ = some (.int .i64 9) ∧ wz3.cell? ⟨6, 0, none⟩ = some (.int .i64 1) ∧ wz3.cell? ⟨6, 1, none⟩ = some (.int .i64 9) ∧ wz3.cell? ⟨7, 0, none⟩ = some (.int .i64 0) ∧ wz3.cell? ⟨7, 1, none⟩ = some (.int .i64 20) ∧ wz3.cell? ⟨8, 0, none⟩ = some (.int .i64 1) ∧ wz3.cell? ⟨8, 1, none⟩ = some (.int .i64 30) ∧ Kp w wz3 := ⟨kz3.cell sz2.1, kz3.cell sz2.2.1, kz3.cell sz2.2.2.1, kz3.cell sz2.2.2.2.1, kz3.cell sz2.2.2.2.2.1, kz3.cell sz2.2.2.2.2.2.1, kz3.cell sz2.2.2.2.2.2.2.1, kz3.cell sz2.2.2.2.2.2.2.2.1, kz3.cell sz2.2.2.2.2.2.2.2.2.1, kz3.cell sz2.2.2.2.2.2.2.2.2.2.1, kz3.cell sz2.2.2.2.2.2.2.2.2.2.2.1, kz3.cell sz2.2.2.2.2.2.2.2.2.2.2.2.1, kz3.cell sz2.2.2.2.2.2.2.2.2.2.2.2.2.1, kz3.cell sz2.2.2.2.2.2.2.2.2.2.2.2.2.2.1, kz3.cell sz2.2.2.2.2.2.2.2.2.2.2.2.2.2.2.1, kz3.cell sz2.2.2.2.2.2.2.2.2.2.2.2.2.2.2.2.1, kz3.cell sz2.2.2.2.2.2.2.2.2.2.2.2.2.2.2.2.2.1, sz2.2.2.2.2.2.2.2.2.2.2.2.2.2.2.2.2.2.trans kz3⟩
  clear sz2 kz3
  go_wp2_with fail
  go_ret
  exact ⟨rfl, sz3.2.2.2.2.2.2.2.2.2.2.2.2.2.2.2.2.2⟩

set_option maxRecDepth 100000 in
set_option maxHeartbeats 4000000 in
theorem lim_yes (t k : Value) (a b c d e : Int) (w : World) (hs : Spans w) (h0 : spB 1 4 a = true) (h1 : spB 0 9 b = true) (h2 : spB 1 9 c = true) (h3 : spB 0 20 d = true) :
    Calls Tryd.prog 74 #[rv t k a b c d e] w fun e' w' => e' = .returned (.bool (spB 1 30 e)) ∧ Kp w w' := by
  have s0 : (w.alloc (.cells #[t, k, .int .i64 a, .int .i64 b, .int .i64 c, .int .i64 d, .int .i64 e] 32)).cell? ⟨w.heap.size, 0, none⟩ = some (t) ∧ (w.alloc (.cells #[t, k, .int .i64 a, .int .i64 b, .int .i64 c, .int .i64 d, .int .i64 e] 32)).cell? ⟨w.heap.size, 1, none⟩ = some (k) ∧ (w.alloc (.cells #[t, k, .int .i64 a, .int .i64 b, .int .i64 c, .int .i64 d, .int .i64 e] 32)).cell? ⟨w.heap.size, 2, none⟩ = some (.int .i64 a) ∧ (w.alloc (.cells #[t, k, .int .i64 a, .int .i64 b, .int .i64 c, .int .i64 d, .int .i64 e] 32)).cell? ⟨w.heap.size, 3, none⟩ = some (.int .i64 b) ∧ (w.alloc (.cells #[t, k, .int .i64 a, .int .i64 b, .int .i64 c, .int .i64 d, .int .i64 e] 32)).cell? ⟨w.heap.size, 4, none⟩ = some (.int .i64 c) ∧ (w.alloc (.cells #[t, k, .int .i64 a, .int .i64 b, .int .i64 c, .int .i64 d, .int .i64 e] 32)).cell? ⟨w.heap.size, 5, none⟩ = some (.int .i64 d) ∧ (w.alloc (.cells #[t, k, .int .i64 a, .int .i64 b, .int .i64 c, .int .i64 d, .int .i64 e] 32)).cell? ⟨w.heap.size, 6, none⟩ = some (.int .i64 e) ∧ (w.alloc (.cells #[t, k, .int .i64 a, .int .i64 b, .int .i64 c, .int .i64 d, .int .i64 e] 32)).cell? ⟨4, 0, none⟩ = some (.int .i64 1) ∧ (w.alloc (.cells #[t, k, .int .i64 a, .int .i64 b, .int .i64 c, .int .i64 d, .int .i64 e] 32)).cell? ⟨4, 1, none⟩ = some (.int .i64 4) ∧ (w.alloc (.cells #[t, k, .int .i64 a, .int .i64 b, .int .i64 c, .int .i64 d, .int .i64 e] 32)).cell? ⟨5, 0, none⟩ = some (.int .i64 0) ∧ (w.alloc (.cells #[t, k, .int .i64 a, .int .i64 b, .int .i64 c, .int .i64 d, .int .i64 e] 32)).cell? ⟨5, 1, none⟩ = some (.int .i64 9) ∧ (w.alloc (.cells #[t, k, .int .i64 a, .int .i64 b, .int .i64 c, .int .i64 d, .int .i64 e] 32)).cell? ⟨6, 0, none⟩ = some (.int .i64 1) ∧ (w.alloc (.cells #[t, k, .int .i64 a, .int .i64 b, .int .i64 c, .int .i64 d, .int .i64 e] 32)).cell? ⟨6, 1, none⟩ = some (.int .i64 9) ∧ (w.alloc (.cells #[t, k, .int .i64 a, .int .i64 b, .int .i64 c, .int .i64 d, .int .i64 e] 32)).cell? ⟨7, 0, none⟩ = some (.int .i64 0) ∧ (w.alloc (.cells #[t, k, .int .i64 a, .int .i64 b, .int .i64 c, .int .i64 d, .int .i64 e] 32)).cell? ⟨7, 1, none⟩ = some (.int .i64 20) ∧ (w.alloc (.cells #[t, k, .int .i64 a, .int .i64 b, .int .i64 c, .int .i64 d, .int .i64 e] 32)).cell? ⟨8, 0, none⟩ = some (.int .i64 1) ∧ (w.alloc (.cells #[t, k, .int .i64 a, .int .i64 b, .int .i64 c, .int .i64 d, .int .i64 e] 32)).cell? ⟨8, 1, none⟩ = some (.int .i64 30) ∧ Kp w (w.alloc (.cells #[t, k, .int .i64 a, .int .i64 b, .int .i64 c, .int .i64 d, .int .i64 e] 32)) :=
    ⟨by simp [go_sem], by simp [go_sem], by simp [go_sem], by simp [go_sem], by simp [go_sem], by simp [go_sem], by simp [go_sem], ((Kp.refl w).alloc _).cell hs.stack.1, ((Kp.refl w).alloc _).cell hs.stack.2, ((Kp.refl w).alloc _).cell hs.river.1, ((Kp.refl w).alloc _).cell hs.river.2, ((Kp.refl w).alloc _).cell hs.road.1, ((Kp.refl w).alloc _).cell hs.road.2, ((Kp.refl w).alloc _).cell hs.supply.1, ((Kp.refl w).alloc _).cell hs.supply.2, ((Kp.refl w).alloc _).cell hs.turns.1, ((Kp.refl w).alloc _).cell hs.turns.2, (Kp.refl w).alloc _⟩
  clear hs
  go_enter Tryd.func74, Tryd.ntmps74
  go_wp2_with fail
  generalize w.alloc (.cells #[t, k, .int .i64 a, .int .i64 b, .int .i64 c, .int .i64 d, .int .i64 e] 32) = W0 at *
  refine (has_any _ _ _ _).mono ?_
  rintro e0 wz0 ⟨rfl, kz0⟩
  have sz0 : wz0.cell? ⟨w.heap.size, 0, none⟩ = some (t) ∧ wz0.cell? ⟨w.heap.size, 1, none⟩ = some (k) ∧ wz0.cell? ⟨w.heap.size, 2, none⟩ = some (.int .i64 a) ∧ wz0.cell? ⟨w.heap.size, 3, none⟩ = some (.int .i64 b) ∧ wz0.cell? ⟨w.heap.size, 4, none⟩ = some (.int .i64 c) ∧ wz0.cell? ⟨w.heap.size, 5, none⟩ = some (.int .i64 d) ∧ wz0.cell? ⟨w.heap.size, 6, none⟩ = some (.int .i64 e) ∧ wz0.cell? ⟨4, 0, none⟩ = some (.int .i64 1) ∧ wz0.cell? ⟨4, 1, none⟩ = some (.int .i64 4) ∧ wz0.cell? ⟨5, 0, none⟩ = some (.int .i64 0) ∧ wz0.cell? ⟨5, 1, none⟩ = some (.int .i64 9) ∧ wz0.cell? ⟨6, 0, none⟩ = some (.int .i64 1) ∧ wz0.cell? ⟨6, 1, none⟩ = some (.int .i64 9) ∧ wz0.cell? ⟨7, 0, none⟩ = some (.int .i64 0) ∧ wz0.cell? ⟨7, 1, none⟩ = some (.int .i64 20) ∧ wz0.cell? ⟨8, 0, none⟩ = some (.int .i64 1) ∧ wz0.cell? ⟨8, 1, none⟩ = some (.int .i64 30) ∧ Kp w wz0 := ⟨kz0.cell s0.1, kz0.cell s0.2.1, kz0.cell s0.2.2.1, kz0.cell s0.2.2.2.1, kz0.cell s0.2.2.2.2.1, kz0.cell s0.2.2.2.2.2.1, kz0.cell s0.2.2.2.2.2.2.1, kz0.cell s0.2.2.2.2.2.2.2.1, kz0.cell s0.2.2.2.2.2.2.2.2.1, kz0.cell s0.2.2.2.2.2.2.2.2.2.1, kz0.cell s0.2.2.2.2.2.2.2.2.2.2.1, kz0.cell s0.2.2.2.2.2.2.2.2.2.2.2.1, kz0.cell s0.2.2.2.2.2.2.2.2.2.2.2.2.1, kz0.cell s0.2.2.2.2.2.2.2.2.2.2.2.2.2.1, kz0.cell s0.2.2.2.2.2.2.2.2.2.2.2.2.2.2.1, kz0.cell s0.2.2.2.2.2.2.2.2.2.2.2.2.2.2.2.1, kz0.cell s0.2.2.2.2.2.2.2.2.2.2.2.2.2.2.2.2.1, s0.2.2.2.2.2.2.2.2.2.2.2.2.2.2.2.2.2.trans kz0⟩
  clear s0 kz0
  go_wp2_with fail
  refine (has_any _ _ _ _).mono ?_
  rintro e1 wz1 ⟨rfl, kz1⟩
  have sz1 : wz1.cell? ⟨w.heap.size, 0, none⟩ = some (t) ∧ wz1.cell? ⟨w.heap.size, 1, none⟩ = some (k) ∧ wz1.cell? ⟨w.heap.size, 2, none⟩ = some (.int .i64 a) ∧ wz1.cell? ⟨w.heap.size, 3, none⟩ = some (.int .i64 b) ∧ wz1.cell? ⟨w.heap.size, 4, none⟩ = some (.int .i64 c) ∧ wz1.cell? ⟨w.heap.size, 5, none⟩ = some (.int .i64 d) ∧ wz1.cell? ⟨w.heap.size, 6, none⟩ = some (.int .i64 e) ∧ wz1.cell? ⟨4, 0, none⟩ = some (.int .i64 1) ∧ wz1.cell? ⟨4, 1, none⟩ = some (.int .i64 4) ∧ wz1.cell? ⟨5, 0, none⟩ = some (.int .i64 0) ∧ wz1.cell? ⟨5, 1, none⟩ = some (.int .i64 9) ∧ wz1.cell? ⟨6, 0, none⟩ = some (.int .i64 1) ∧ wz1.cell? ⟨6, 1, none⟩ = some (.int .i64 9) ∧ wz1.cell? ⟨7, 0, none⟩ = some (.int .i64 0) ∧ wz1.cell? ⟨7, 1, none⟩ = some (.int .i64 20) ∧ wz1.cell? ⟨8, 0, none⟩ = some (.int .i64 1) ∧ wz1.cell? ⟨8, 1, none⟩ = some (.int .i64 30) ∧ Kp w wz1 := ⟨kz1.cell sz0.1, kz1.cell sz0.2.1, kz1.cell sz0.2.2.1, kz1.cell sz0.2.2.2.1, kz1.cell sz0.2.2.2.2.1, kz1.cell sz0.2.2.2.2.2.1, kz1.cell sz0.2.2.2.2.2.2.1, kz1.cell sz0.2.2.2.2.2.2.2.1, kz1.cell sz0.2.2.2.2.2.2.2.2.1, kz1.cell sz0.2.2.2.2.2.2.2.2.2.1, kz1.cell sz0.2.2.2.2.2.2.2.2.2.2.1, kz1.cell sz0.2.2.2.2.2.2.2.2.2.2.2.1, kz1.cell sz0.2.2.2.2.2.2.2.2.2.2.2.2.1, kz1.cell sz0.2.2.2.2.2.2.2.2.2.2.2.2.2.1, kz1.cell sz0.2.2.2.2.2.2.2.2.2.2.2.2.2.2.1, kz1.cell sz0.2.2.2.2.2.2.2.2.2.2.2.2.2.2.2.1, kz1.cell sz0.2.2.2.2.2.2.2.2.2.2.2.2.2.2.2.2.1, sz0.2.2.2.2.2.2.2.2.2.2.2.2.2.2.2.2.2.trans kz1⟩
  clear sz0 kz1
  go_wp2_with fail
  refine (has_any _ _ _ _).mono ?_
  rintro e2 wz2 ⟨rfl, kz2⟩
  have sz2 : wz2.cell? ⟨w.heap.size, 0, none⟩ = some (t) ∧ wz2.cell? ⟨w.heap.size, 1, none⟩ = some (k) ∧ wz2.cell? ⟨w.heap.size, 2, none⟩ = some (.int .i64 a) ∧ wz2.cell? ⟨w.heap.size, 3, none⟩ = some (.int .i64 b) ∧ wz2.cell? ⟨w.heap.size, 4, none⟩ = some (.int .i64 c) ∧ wz2.cell? ⟨w.heap.size, 5, none⟩ = some (.int .i64 d) ∧ wz2.cell? ⟨w.heap.size, 6, none⟩ = some (.int .i64 e) ∧ wz2.cell? ⟨4, 0, none⟩ = some (.int .i64 1) ∧ wz2.cell? ⟨4, 1, none⟩ = some (.int .i64 4) ∧ wz2.cell? ⟨5, 0, none⟩ = some (.int .i64 0) ∧ wz2.cell? ⟨5, 1, none⟩ = some (.int .i64 9) ∧ wz2.cell? ⟨6, 0, none⟩ = some (.int .i64 1) ∧ wz2.cell? ⟨6, 1, none⟩ = some (.int .i64 9) ∧ wz2.cell? ⟨7, 0, none⟩ = some (.int .i64 0) ∧ wz2.cell? ⟨7, 1, none⟩ = some (.int .i64 20) ∧ wz2.cell? ⟨8, 0, none⟩ = some (.int .i64 1) ∧ wz2.cell? ⟨8, 1, none⟩ = some (.int .i64 30) ∧ Kp w wz2 := ⟨kz2.cell sz1.1, kz2.cell sz1.2.1, kz2.cell sz1.2.2.1, kz2.cell sz1.2.2.2.1, kz2.cell sz1.2.2.2.2.1, kz2.cell sz1.2.2.2.2.2.1, kz2.cell sz1.2.2.2.2.2.2.1, kz2.cell sz1.2.2.2.2.2.2.2.1, kz2.cell sz1.2.2.2.2.2.2.2.2.1, kz2.cell sz1.2.2.2.2.2.2.2.2.2.1, kz2.cell sz1.2.2.2.2.2.2.2.2.2.2.1, kz2.cell sz1.2.2.2.2.2.2.2.2.2.2.2.1, kz2.cell sz1.2.2.2.2.2.2.2.2.2.2.2.2.1, kz2.cell sz1.2.2.2.2.2.2.2.2.2.2.2.2.2.1, kz2.cell sz1.2.2.2.2.2.2.2.2.2.2.2.2.2.2.1, kz2.cell sz1.2.2.2.2.2.2.2.2.2.2.2.2.2.2.2.1, kz2.cell sz1.2.2.2.2.2.2.2.2.2.2.2.2.2.2.2.2.1, sz1.2.2.2.2.2.2.2.2.2.2.2.2.2.2.2.2.2.trans kz2⟩
  clear sz1 kz2
  go_wp2_with fail
  refine (has_any _ _ _ _).mono ?_
  rintro e3 wz3 ⟨rfl, kz3⟩
  have sz3 : wz3.cell? ⟨w.heap.size, 0, none⟩ = some (t) ∧ wz3.cell? ⟨w.heap.size, 1, none⟩ = some (k) ∧ wz3.cell? ⟨w.heap.size, 2, none⟩ = some (.int .i64 a) ∧ wz3.cell? ⟨w.heap.size, 3, none⟩ = some (.int .i64 b) ∧ wz3.cell? ⟨w.heap.size, 4, none⟩ = some (.int .i64 c) ∧ wz3.cell? ⟨w.heap.size, 5, none⟩ = some (.int .i64 d) ∧ wz3.cell? ⟨w.heap.size, 6, none⟩ = some (.int .i64 e) ∧ wz3.cell? ⟨4, 0, none⟩ = some (.int .i64 1) ∧ wz3.cell? ⟨4, 1, none⟩ = some (.int .i64 4) ∧ wz3.cell? ⟨5, 0, none⟩ = some (.int .i64 0) ∧ wz3.cell? ⟨5, 1, none⟩ = some (.int .i64 9) ∧ wz3.cell? ⟨6, 0, none⟩ = some (.int .i64 1) ∧ wz3.cell? ⟨6, 1, none⟩ = some (.int .i64 9) ∧ wz3.cell? ⟨7, 0, none⟩ = some (.int .i64 0) ∧ wz3.cell? ⟨7, 1, none⟩ = some (.int .i64 20) ∧ wz3.cell? ⟨8, 0, none⟩ = some (.int .i64 1) ∧ wz3.cell? ⟨8, 1, none⟩ = some (.int .i64 30) ∧ Kp w wz3 := ⟨kz3.cell sz2.1, kz3.cell sz2.2.1, kz3.cell sz2.2.2.1, kz3.cell sz2.2.2.2.1, kz3.cell sz2.2.2.2.2.1, kz3.cell sz2.2.2.2.2.2.1, kz3.cell sz2.2.2.2.2.2.2.1, kz3.cell sz2.2.2.2.2.2.2.2.1, kz3.cell sz2.2.2.2.2.2.2.2.2.1, kz3.cell sz2.2.2.2.2.2.2.2.2.2.1, kz3.cell sz2.2.2.2.2.2.2.2.2.2.2.1, kz3.cell sz2.2.2.2.2.2.2.2.2.2.2.2.1, kz3.cell sz2.2.2.2.2.2.2.2.2.2.2.2.2.1, kz3.cell sz2.2.2.2.2.2.2.2.2.2.2.2.2.2.1, kz3.cell sz2.2.2.2.2.2.2.2.2.2.2.2.2.2.2.1, kz3.cell sz2.2.2.2.2.2.2.2.2.2.2.2.2.2.2.2.1, kz3.cell sz2.2.2.2.2.2.2.2.2.2.2.2.2.2.2.2.2.1, sz2.2.2.2.2.2.2.2.2.2.2.2.2.2.2.2.2.2.trans kz3⟩
  clear sz2 kz3
  go_wp2_with fail
  refine (has_any _ _ _ _).mono ?_
  rintro e4 wz4 ⟨rfl, kz4⟩
  have sz4 : wz4.cell? ⟨w.heap.size, 0, none⟩ = some (t) ∧ wz4.cell? ⟨w.heap.size, 1, none⟩ = some (k) ∧ wz4.cell? ⟨w.heap.size, 2, none⟩ = some (.int .i64 a) ∧ wz4.cell? ⟨w.heap.size, 3, none⟩ = some (.int .i64 b) ∧ wz4.cell? ⟨w.heap.size, 4, none⟩ = some (.int .i64 c) ∧ wz4.cell? ⟨w.heap.size, 5, none⟩ = some (.int .i64 d) ∧ wz4.cell? ⟨w.heap.size, 6, none⟩ = some (.int .i64 e) ∧ wz4.cell? ⟨4, 0, none⟩ = some (.int .i64 1) ∧ wz4.cell? ⟨4, 1, none⟩ = some (.int .i64 4) ∧ wz4.cell? ⟨5, 0, none⟩ = some (.int .i64 0) ∧ wz4.cell? ⟨5, 1, none⟩ = some (.int .i64 9) ∧ wz4.cell? ⟨6, 0, none⟩ = some (.int .i64 1) ∧ wz4.cell? ⟨6, 1, none⟩ = some (.int .i64 9) ∧ wz4.cell? ⟨7, 0, none⟩ = some (.int .i64 0) ∧ wz4.cell? ⟨7, 1, none⟩ = some (.int .i64 20) ∧ wz4.cell? ⟨8, 0, none⟩ = some (.int .i64 1) ∧ wz4.cell? ⟨8, 1, none⟩ = some (.int .i64 30) ∧ Kp w wz4 := ⟨kz4.cell sz3.1, kz4.cell sz3.2.1, kz4.cell sz3.2.2.1, kz4.cell sz3.2.2.2.1, kz4.cell sz3.2.2.2.2.1, kz4.cell sz3.2.2.2.2.2.1, kz4.cell sz3.2.2.2.2.2.2.1, kz4.cell sz3.2.2.2.2.2.2.2.1, kz4.cell sz3.2.2.2.2.2.2.2.2.1, kz4.cell sz3.2.2.2.2.2.2.2.2.2.1, kz4.cell sz3.2.2.2.2.2.2.2.2.2.2.1, kz4.cell sz3.2.2.2.2.2.2.2.2.2.2.2.1, kz4.cell sz3.2.2.2.2.2.2.2.2.2.2.2.2.1, kz4.cell sz3.2.2.2.2.2.2.2.2.2.2.2.2.2.1, kz4.cell sz3.2.2.2.2.2.2.2.2.2.2.2.2.2.2.1, kz4.cell sz3.2.2.2.2.2.2.2.2.2.2.2.2.2.2.2.1, kz4.cell sz3.2.2.2.2.2.2.2.2.2.2.2.2.2.2.2.2.1, sz3.2.2.2.2.2.2.2.2.2.2.2.2.2.2.2.2.2.trans kz4⟩
  clear sz3 kz4
  go_wp2_with fail
  go_ret
  exact ⟨rfl, sz4.2.2.2.2.2.2.2.2.2.2.2.2.2.2.2.2.2⟩

abbrev kv (n : ByteArray) (a b c : Int) (z : Bool) (v : Int) : Value := .agg #[.string n, .int .i64 a, .int .i64 b, .int .i64 c, .bool z, .int .i64 v]

set_option maxRecDepth 100000 in
set_option maxHeartbeats 4000000 in
theorem kn_no1 (n : ByteArray) (a b c : Int) (z : Bool) (v : Int) (w : World) (hs : Spans w) (h0 : spB 1 9 a = false) :
    Calls Tryd.prog 76 #[kv n a b c z v] w fun e' w' => e' = .returned (.bool false) ∧ Kp w w' := by
  have s0 : (w.alloc (.cells #[.string n, .int .i64 a, .int .i64 b, .int .i64 c, .bool z, .int .i64 v] 62)).cell? ⟨w.heap.size, 0, none⟩ = some (.string n) ∧ (w.alloc (.cells #[.string n, .int .i64 a, .int .i64 b, .int .i64 c, .bool z, .int .i64 v] 62)).cell? ⟨w.heap.size, 1, none⟩ = some (.int .i64 a) ∧ (w.alloc (.cells #[.string n, .int .i64 a, .int .i64 b, .int .i64 c, .bool z, .int .i64 v] 62)).cell? ⟨w.heap.size, 2, none⟩ = some (.int .i64 b) ∧ (w.alloc (.cells #[.string n, .int .i64 a, .int .i64 b, .int .i64 c, .bool z, .int .i64 v] 62)).cell? ⟨w.heap.size, 3, none⟩ = some (.int .i64 c) ∧ (w.alloc (.cells #[.string n, .int .i64 a, .int .i64 b, .int .i64 c, .bool z, .int .i64 v] 62)).cell? ⟨w.heap.size, 4, none⟩ = some (.bool z) ∧ (w.alloc (.cells #[.string n, .int .i64 a, .int .i64 b, .int .i64 c, .bool z, .int .i64 v] 62)).cell? ⟨w.heap.size, 5, none⟩ = some (.int .i64 v) ∧ (w.alloc (.cells #[.string n, .int .i64 a, .int .i64 b, .int .i64 c, .bool z, .int .i64 v] 62)).cell? ⟨12, 0, none⟩ = some (.int .i64 1) ∧ (w.alloc (.cells #[.string n, .int .i64 a, .int .i64 b, .int .i64 c, .bool z, .int .i64 v] 62)).cell? ⟨12, 1, none⟩ = some (.int .i64 9) ∧ (w.alloc (.cells #[.string n, .int .i64 a, .int .i64 b, .int .i64 c, .bool z, .int .i64 v] 62)).cell? ⟨13, 0, none⟩ = some (.int .i64 0) ∧ (w.alloc (.cells #[.string n, .int .i64 a, .int .i64 b, .int .i64 c, .bool z, .int .i64 v] 62)).cell? ⟨13, 1, none⟩ = some (.int .i64 9) ∧ (w.alloc (.cells #[.string n, .int .i64 a, .int .i64 b, .int .i64 c, .bool z, .int .i64 v] 62)).cell? ⟨14, 0, none⟩ = some (.int .i64 1) ∧ (w.alloc (.cells #[.string n, .int .i64 a, .int .i64 b, .int .i64 c, .bool z, .int .i64 v] 62)).cell? ⟨14, 1, none⟩ = some (.int .i64 4) ∧ (w.alloc (.cells #[.string n, .int .i64 a, .int .i64 b, .int .i64 c, .bool z, .int .i64 v] 62)).cell? ⟨15, 0, none⟩ = some (.int .i64 0) ∧ (w.alloc (.cells #[.string n, .int .i64 a, .int .i64 b, .int .i64 c, .bool z, .int .i64 v] 62)).cell? ⟨15, 1, none⟩ = some (.int .i64 4) ∧ Kp w (w.alloc (.cells #[.string n, .int .i64 a, .int .i64 b, .int .i64 c, .bool z, .int .i64 v] 62)) :=
    ⟨by simp [go_sem], by simp [go_sem], by simp [go_sem], by simp [go_sem], by simp [go_sem], by simp [go_sem], ((Kp.refl w).alloc _).cell hs.strength.1, ((Kp.refl w).alloc _).cell hs.strength.2, ((Kp.refl w).alloc _).cell hs.moves.1, ((Kp.refl w).alloc _).cell hs.moves.2, ((Kp.refl w).alloc _).cell hs.steps.1, ((Kp.refl w).alloc _).cell hs.steps.2, ((Kp.refl w).alloc _).cell hs.view.1, ((Kp.refl w).alloc _).cell hs.view.2, (Kp.refl w).alloc _⟩
  clear hs
  go_enter Tryd.func76, Tryd.ntmps76
  go_wp2_with fail
  generalize w.alloc (.cells #[.string n, .int .i64 a, .int .i64 b, .int .i64 c, .bool z, .int .i64 v] 62) = W0 at *
  refine (has_any _ _ _ _).mono ?_
  rintro e0 wz0 ⟨rfl, kz0⟩
  have sz0 : wz0.cell? ⟨w.heap.size, 0, none⟩ = some (.string n) ∧ wz0.cell? ⟨w.heap.size, 1, none⟩ = some (.int .i64 a) ∧ wz0.cell? ⟨w.heap.size, 2, none⟩ = some (.int .i64 b) ∧ wz0.cell? ⟨w.heap.size, 3, none⟩ = some (.int .i64 c) ∧ wz0.cell? ⟨w.heap.size, 4, none⟩ = some (.bool z) ∧ wz0.cell? ⟨w.heap.size, 5, none⟩ = some (.int .i64 v) ∧ wz0.cell? ⟨12, 0, none⟩ = some (.int .i64 1) ∧ wz0.cell? ⟨12, 1, none⟩ = some (.int .i64 9) ∧ wz0.cell? ⟨13, 0, none⟩ = some (.int .i64 0) ∧ wz0.cell? ⟨13, 1, none⟩ = some (.int .i64 9) ∧ wz0.cell? ⟨14, 0, none⟩ = some (.int .i64 1) ∧ wz0.cell? ⟨14, 1, none⟩ = some (.int .i64 4) ∧ wz0.cell? ⟨15, 0, none⟩ = some (.int .i64 0) ∧ wz0.cell? ⟨15, 1, none⟩ = some (.int .i64 4) ∧ Kp w wz0 := ⟨kz0.cell s0.1, kz0.cell s0.2.1, kz0.cell s0.2.2.1, kz0.cell s0.2.2.2.1, kz0.cell s0.2.2.2.2.1, kz0.cell s0.2.2.2.2.2.1, kz0.cell s0.2.2.2.2.2.2.1, kz0.cell s0.2.2.2.2.2.2.2.1, kz0.cell s0.2.2.2.2.2.2.2.2.1, kz0.cell s0.2.2.2.2.2.2.2.2.2.1, kz0.cell s0.2.2.2.2.2.2.2.2.2.2.1, kz0.cell s0.2.2.2.2.2.2.2.2.2.2.2.1, kz0.cell s0.2.2.2.2.2.2.2.2.2.2.2.2.1, kz0.cell s0.2.2.2.2.2.2.2.2.2.2.2.2.2.1, s0.2.2.2.2.2.2.2.2.2.2.2.2.2.2.trans kz0⟩
  clear s0 kz0
  go_wp2_with fail
  go_ret
  exact ⟨rfl, sz0.2.2.2.2.2.2.2.2.2.2.2.2.2.2⟩

set_option maxRecDepth 100000 in
set_option maxHeartbeats 4000000 in
theorem kn_no2 (n : ByteArray) (a b c : Int) (z : Bool) (v : Int) (w : World) (hs : Spans w) (h0 : spB 1 9 a = true) (h1 : spB 0 9 b = false) :
    Calls Tryd.prog 76 #[kv n a b c z v] w fun e' w' => e' = .returned (.bool false) ∧ Kp w w' := by
  have s0 : (w.alloc (.cells #[.string n, .int .i64 a, .int .i64 b, .int .i64 c, .bool z, .int .i64 v] 62)).cell? ⟨w.heap.size, 0, none⟩ = some (.string n) ∧ (w.alloc (.cells #[.string n, .int .i64 a, .int .i64 b, .int .i64 c, .bool z, .int .i64 v] 62)).cell? ⟨w.heap.size, 1, none⟩ = some (.int .i64 a) ∧ (w.alloc (.cells #[.string n, .int .i64 a, .int .i64 b, .int .i64 c, .bool z, .int .i64 v] 62)).cell? ⟨w.heap.size, 2, none⟩ = some (.int .i64 b) ∧ (w.alloc (.cells #[.string n, .int .i64 a, .int .i64 b, .int .i64 c, .bool z, .int .i64 v] 62)).cell? ⟨w.heap.size, 3, none⟩ = some (.int .i64 c) ∧ (w.alloc (.cells #[.string n, .int .i64 a, .int .i64 b, .int .i64 c, .bool z, .int .i64 v] 62)).cell? ⟨w.heap.size, 4, none⟩ = some (.bool z) ∧ (w.alloc (.cells #[.string n, .int .i64 a, .int .i64 b, .int .i64 c, .bool z, .int .i64 v] 62)).cell? ⟨w.heap.size, 5, none⟩ = some (.int .i64 v) ∧ (w.alloc (.cells #[.string n, .int .i64 a, .int .i64 b, .int .i64 c, .bool z, .int .i64 v] 62)).cell? ⟨12, 0, none⟩ = some (.int .i64 1) ∧ (w.alloc (.cells #[.string n, .int .i64 a, .int .i64 b, .int .i64 c, .bool z, .int .i64 v] 62)).cell? ⟨12, 1, none⟩ = some (.int .i64 9) ∧ (w.alloc (.cells #[.string n, .int .i64 a, .int .i64 b, .int .i64 c, .bool z, .int .i64 v] 62)).cell? ⟨13, 0, none⟩ = some (.int .i64 0) ∧ (w.alloc (.cells #[.string n, .int .i64 a, .int .i64 b, .int .i64 c, .bool z, .int .i64 v] 62)).cell? ⟨13, 1, none⟩ = some (.int .i64 9) ∧ (w.alloc (.cells #[.string n, .int .i64 a, .int .i64 b, .int .i64 c, .bool z, .int .i64 v] 62)).cell? ⟨14, 0, none⟩ = some (.int .i64 1) ∧ (w.alloc (.cells #[.string n, .int .i64 a, .int .i64 b, .int .i64 c, .bool z, .int .i64 v] 62)).cell? ⟨14, 1, none⟩ = some (.int .i64 4) ∧ (w.alloc (.cells #[.string n, .int .i64 a, .int .i64 b, .int .i64 c, .bool z, .int .i64 v] 62)).cell? ⟨15, 0, none⟩ = some (.int .i64 0) ∧ (w.alloc (.cells #[.string n, .int .i64 a, .int .i64 b, .int .i64 c, .bool z, .int .i64 v] 62)).cell? ⟨15, 1, none⟩ = some (.int .i64 4) ∧ Kp w (w.alloc (.cells #[.string n, .int .i64 a, .int .i64 b, .int .i64 c, .bool z, .int .i64 v] 62)) :=
    ⟨by simp [go_sem], by simp [go_sem], by simp [go_sem], by simp [go_sem], by simp [go_sem], by simp [go_sem], ((Kp.refl w).alloc _).cell hs.strength.1, ((Kp.refl w).alloc _).cell hs.strength.2, ((Kp.refl w).alloc _).cell hs.moves.1, ((Kp.refl w).alloc _).cell hs.moves.2, ((Kp.refl w).alloc _).cell hs.steps.1, ((Kp.refl w).alloc _).cell hs.steps.2, ((Kp.refl w).alloc _).cell hs.view.1, ((Kp.refl w).alloc _).cell hs.view.2, (Kp.refl w).alloc _⟩
  clear hs
  go_enter Tryd.func76, Tryd.ntmps76
  go_wp2_with fail
  generalize w.alloc (.cells #[.string n, .int .i64 a, .int .i64 b, .int .i64 c, .bool z, .int .i64 v] 62) = W0 at *
  refine (has_any _ _ _ _).mono ?_
  rintro e0 wz0 ⟨rfl, kz0⟩
  have sz0 : wz0.cell? ⟨w.heap.size, 0, none⟩ = some (.string n) ∧ wz0.cell? ⟨w.heap.size, 1, none⟩ = some (.int .i64 a) ∧ wz0.cell? ⟨w.heap.size, 2, none⟩ = some (.int .i64 b) ∧ wz0.cell? ⟨w.heap.size, 3, none⟩ = some (.int .i64 c) ∧ wz0.cell? ⟨w.heap.size, 4, none⟩ = some (.bool z) ∧ wz0.cell? ⟨w.heap.size, 5, none⟩ = some (.int .i64 v) ∧ wz0.cell? ⟨12, 0, none⟩ = some (.int .i64 1) ∧ wz0.cell? ⟨12, 1, none⟩ = some (.int .i64 9) ∧ wz0.cell? ⟨13, 0, none⟩ = some (.int .i64 0) ∧ wz0.cell? ⟨13, 1, none⟩ = some (.int .i64 9) ∧ wz0.cell? ⟨14, 0, none⟩ = some (.int .i64 1) ∧ wz0.cell? ⟨14, 1, none⟩ = some (.int .i64 4) ∧ wz0.cell? ⟨15, 0, none⟩ = some (.int .i64 0) ∧ wz0.cell? ⟨15, 1, none⟩ = some (.int .i64 4) ∧ Kp w wz0 := ⟨kz0.cell s0.1, kz0.cell s0.2.1, kz0.cell s0.2.2.1, kz0.cell s0.2.2.2.1, kz0.cell s0.2.2.2.2.1, kz0.cell s0.2.2.2.2.2.1, kz0.cell s0.2.2.2.2.2.2.1, kz0.cell s0.2.2.2.2.2.2.2.1, kz0.cell s0.2.2.2.2.2.2.2.2.1, kz0.cell s0.2.2.2.2.2.2.2.2.2.1, kz0.cell s0.2.2.2.2.2.2.2.2.2.2.1, kz0.cell s0.2.2.2.2.2.2.2.2.2.2.2.1, kz0.cell s0.2.2.2.2.2.2.2.2.2.2.2.2.1, kz0.cell s0.2.2.2.2.2.2.2.2.2.2.2.2.2.1, s0.2.2.2.2.2.2.2.2.2.2.2.2.2.2.trans kz0⟩
  clear s0 kz0
  go_wp2_with fail
  refine (has_any _ _ _ _).mono ?_
  rintro e1 wz1 ⟨rfl, kz1⟩
  have sz1 : wz1.cell? ⟨w.heap.size, 0, none⟩ = some (.string n) ∧ wz1.cell? ⟨w.heap.size, 1, none⟩ = some (.int .i64 a) ∧ wz1.cell? ⟨w.heap.size, 2, none⟩ = some (.int .i64 b) ∧ wz1.cell? ⟨w.heap.size, 3, none⟩ = some (.int .i64 c) ∧ wz1.cell? ⟨w.heap.size, 4, none⟩ = some (.bool z) ∧ wz1.cell? ⟨w.heap.size, 5, none⟩ = some (.int .i64 v) ∧ wz1.cell? ⟨12, 0, none⟩ = some (.int .i64 1) ∧ wz1.cell? ⟨12, 1, none⟩ = some (.int .i64 9) ∧ wz1.cell? ⟨13, 0, none⟩ = some (.int .i64 0) ∧ wz1.cell? ⟨13, 1, none⟩ = some (.int .i64 9) ∧ wz1.cell? ⟨14, 0, none⟩ = some (.int .i64 1) ∧ wz1.cell? ⟨14, 1, none⟩ = some (.int .i64 4) ∧ wz1.cell? ⟨15, 0, none⟩ = some (.int .i64 0) ∧ wz1.cell? ⟨15, 1, none⟩ = some (.int .i64 4) ∧ Kp w wz1 := ⟨kz1.cell sz0.1, kz1.cell sz0.2.1, kz1.cell sz0.2.2.1, kz1.cell sz0.2.2.2.1, kz1.cell sz0.2.2.2.2.1, kz1.cell sz0.2.2.2.2.2.1, kz1.cell sz0.2.2.2.2.2.2.1, kz1.cell sz0.2.2.2.2.2.2.2.1, kz1.cell sz0.2.2.2.2.2.2.2.2.1, kz1.cell sz0.2.2.2.2.2.2.2.2.2.1, kz1.cell sz0.2.2.2.2.2.2.2.2.2.2.1, kz1.cell sz0.2.2.2.2.2.2.2.2.2.2.2.1, kz1.cell sz0.2.2.2.2.2.2.2.2.2.2.2.2.1, kz1.cell sz0.2.2.2.2.2.2.2.2.2.2.2.2.2.1, sz0.2.2.2.2.2.2.2.2.2.2.2.2.2.2.trans kz1⟩
  clear sz0 kz1
  go_wp2_with fail
  go_ret
  exact ⟨rfl, sz1.2.2.2.2.2.2.2.2.2.2.2.2.2.2⟩

set_option maxRecDepth 100000 in
set_option maxHeartbeats 4000000 in
theorem kn_no3 (n : ByteArray) (a b c : Int) (z : Bool) (v : Int) (w : World) (hs : Spans w) (h0 : spB 1 9 a = true) (h1 : spB 0 9 b = true) (h2 : spB 1 4 c = false) :
    Calls Tryd.prog 76 #[kv n a b c z v] w fun e' w' => e' = .returned (.bool false) ∧ Kp w w' := by
  have s0 : (w.alloc (.cells #[.string n, .int .i64 a, .int .i64 b, .int .i64 c, .bool z, .int .i64 v] 62)).cell? ⟨w.heap.size, 0, none⟩ = some (.string n) ∧ (w.alloc (.cells #[.string n, .int .i64 a, .int .i64 b, .int .i64 c, .bool z, .int .i64 v] 62)).cell? ⟨w.heap.size, 1, none⟩ = some (.int .i64 a) ∧ (w.alloc (.cells #[.string n, .int .i64 a, .int .i64 b, .int .i64 c, .bool z, .int .i64 v] 62)).cell? ⟨w.heap.size, 2, none⟩ = some (.int .i64 b) ∧ (w.alloc (.cells #[.string n, .int .i64 a, .int .i64 b, .int .i64 c, .bool z, .int .i64 v] 62)).cell? ⟨w.heap.size, 3, none⟩ = some (.int .i64 c) ∧ (w.alloc (.cells #[.string n, .int .i64 a, .int .i64 b, .int .i64 c, .bool z, .int .i64 v] 62)).cell? ⟨w.heap.size, 4, none⟩ = some (.bool z) ∧ (w.alloc (.cells #[.string n, .int .i64 a, .int .i64 b, .int .i64 c, .bool z, .int .i64 v] 62)).cell? ⟨w.heap.size, 5, none⟩ = some (.int .i64 v) ∧ (w.alloc (.cells #[.string n, .int .i64 a, .int .i64 b, .int .i64 c, .bool z, .int .i64 v] 62)).cell? ⟨12, 0, none⟩ = some (.int .i64 1) ∧ (w.alloc (.cells #[.string n, .int .i64 a, .int .i64 b, .int .i64 c, .bool z, .int .i64 v] 62)).cell? ⟨12, 1, none⟩ = some (.int .i64 9) ∧ (w.alloc (.cells #[.string n, .int .i64 a, .int .i64 b, .int .i64 c, .bool z, .int .i64 v] 62)).cell? ⟨13, 0, none⟩ = some (.int .i64 0) ∧ (w.alloc (.cells #[.string n, .int .i64 a, .int .i64 b, .int .i64 c, .bool z, .int .i64 v] 62)).cell? ⟨13, 1, none⟩ = some (.int .i64 9) ∧ (w.alloc (.cells #[.string n, .int .i64 a, .int .i64 b, .int .i64 c, .bool z, .int .i64 v] 62)).cell? ⟨14, 0, none⟩ = some (.int .i64 1) ∧ (w.alloc (.cells #[.string n, .int .i64 a, .int .i64 b, .int .i64 c, .bool z, .int .i64 v] 62)).cell? ⟨14, 1, none⟩ = some (.int .i64 4) ∧ (w.alloc (.cells #[.string n, .int .i64 a, .int .i64 b, .int .i64 c, .bool z, .int .i64 v] 62)).cell? ⟨15, 0, none⟩ = some (.int .i64 0) ∧ (w.alloc (.cells #[.string n, .int .i64 a, .int .i64 b, .int .i64 c, .bool z, .int .i64 v] 62)).cell? ⟨15, 1, none⟩ = some (.int .i64 4) ∧ Kp w (w.alloc (.cells #[.string n, .int .i64 a, .int .i64 b, .int .i64 c, .bool z, .int .i64 v] 62)) :=
    ⟨by simp [go_sem], by simp [go_sem], by simp [go_sem], by simp [go_sem], by simp [go_sem], by simp [go_sem], ((Kp.refl w).alloc _).cell hs.strength.1, ((Kp.refl w).alloc _).cell hs.strength.2, ((Kp.refl w).alloc _).cell hs.moves.1, ((Kp.refl w).alloc _).cell hs.moves.2, ((Kp.refl w).alloc _).cell hs.steps.1, ((Kp.refl w).alloc _).cell hs.steps.2, ((Kp.refl w).alloc _).cell hs.view.1, ((Kp.refl w).alloc _).cell hs.view.2, (Kp.refl w).alloc _⟩
  clear hs
  go_enter Tryd.func76, Tryd.ntmps76
  go_wp2_with fail
  generalize w.alloc (.cells #[.string n, .int .i64 a, .int .i64 b, .int .i64 c, .bool z, .int .i64 v] 62) = W0 at *
  refine (has_any _ _ _ _).mono ?_
  rintro e0 wz0 ⟨rfl, kz0⟩
  have sz0 : wz0.cell? ⟨w.heap.size, 0, none⟩ = some (.string n) ∧ wz0.cell? ⟨w.heap.size, 1, none⟩ = some (.int .i64 a) ∧ wz0.cell? ⟨w.heap.size, 2, none⟩ = some (.int .i64 b) ∧ wz0.cell? ⟨w.heap.size, 3, none⟩ = some (.int .i64 c) ∧ wz0.cell? ⟨w.heap.size, 4, none⟩ = some (.bool z) ∧ wz0.cell? ⟨w.heap.size, 5, none⟩ = some (.int .i64 v) ∧ wz0.cell? ⟨12, 0, none⟩ = some (.int .i64 1) ∧ wz0.cell? ⟨12, 1, none⟩ = some (.int .i64 9) ∧ wz0.cell? ⟨13, 0, none⟩ = some (.int .i64 0) ∧ wz0.cell? ⟨13, 1, none⟩ = some (.int .i64 9) ∧ wz0.cell? ⟨14, 0, none⟩ = some (.int .i64 1) ∧ wz0.cell? ⟨14, 1, none⟩ = some (.int .i64 4) ∧ wz0.cell? ⟨15, 0, none⟩ = some (.int .i64 0) ∧ wz0.cell? ⟨15, 1, none⟩ = some (.int .i64 4) ∧ Kp w wz0 := ⟨kz0.cell s0.1, kz0.cell s0.2.1, kz0.cell s0.2.2.1, kz0.cell s0.2.2.2.1, kz0.cell s0.2.2.2.2.1, kz0.cell s0.2.2.2.2.2.1, kz0.cell s0.2.2.2.2.2.2.1, kz0.cell s0.2.2.2.2.2.2.2.1, kz0.cell s0.2.2.2.2.2.2.2.2.1, kz0.cell s0.2.2.2.2.2.2.2.2.2.1, kz0.cell s0.2.2.2.2.2.2.2.2.2.2.1, kz0.cell s0.2.2.2.2.2.2.2.2.2.2.2.1, kz0.cell s0.2.2.2.2.2.2.2.2.2.2.2.2.1, kz0.cell s0.2.2.2.2.2.2.2.2.2.2.2.2.2.1, s0.2.2.2.2.2.2.2.2.2.2.2.2.2.2.trans kz0⟩
  clear s0 kz0
  go_wp2_with fail
  refine (has_any _ _ _ _).mono ?_
  rintro e1 wz1 ⟨rfl, kz1⟩
  have sz1 : wz1.cell? ⟨w.heap.size, 0, none⟩ = some (.string n) ∧ wz1.cell? ⟨w.heap.size, 1, none⟩ = some (.int .i64 a) ∧ wz1.cell? ⟨w.heap.size, 2, none⟩ = some (.int .i64 b) ∧ wz1.cell? ⟨w.heap.size, 3, none⟩ = some (.int .i64 c) ∧ wz1.cell? ⟨w.heap.size, 4, none⟩ = some (.bool z) ∧ wz1.cell? ⟨w.heap.size, 5, none⟩ = some (.int .i64 v) ∧ wz1.cell? ⟨12, 0, none⟩ = some (.int .i64 1) ∧ wz1.cell? ⟨12, 1, none⟩ = some (.int .i64 9) ∧ wz1.cell? ⟨13, 0, none⟩ = some (.int .i64 0) ∧ wz1.cell? ⟨13, 1, none⟩ = some (.int .i64 9) ∧ wz1.cell? ⟨14, 0, none⟩ = some (.int .i64 1) ∧ wz1.cell? ⟨14, 1, none⟩ = some (.int .i64 4) ∧ wz1.cell? ⟨15, 0, none⟩ = some (.int .i64 0) ∧ wz1.cell? ⟨15, 1, none⟩ = some (.int .i64 4) ∧ Kp w wz1 := ⟨kz1.cell sz0.1, kz1.cell sz0.2.1, kz1.cell sz0.2.2.1, kz1.cell sz0.2.2.2.1, kz1.cell sz0.2.2.2.2.1, kz1.cell sz0.2.2.2.2.2.1, kz1.cell sz0.2.2.2.2.2.2.1, kz1.cell sz0.2.2.2.2.2.2.2.1, kz1.cell sz0.2.2.2.2.2.2.2.2.1, kz1.cell sz0.2.2.2.2.2.2.2.2.2.1, kz1.cell sz0.2.2.2.2.2.2.2.2.2.2.1, kz1.cell sz0.2.2.2.2.2.2.2.2.2.2.2.1, kz1.cell sz0.2.2.2.2.2.2.2.2.2.2.2.2.1, kz1.cell sz0.2.2.2.2.2.2.2.2.2.2.2.2.2.1, sz0.2.2.2.2.2.2.2.2.2.2.2.2.2.2.trans kz1⟩
  clear sz0 kz1
  go_wp2_with fail
  refine (has_any _ _ _ _).mono ?_
  rintro e2 wz2 ⟨rfl, kz2⟩
  have sz2 : wz2.cell? ⟨w.heap.size, 0, none⟩ = some (.string n) ∧ wz2.cell? ⟨w.heap.size, 1, none⟩ = some (.int .i64 a) ∧ wz2.cell? ⟨w.heap.size, 2, none⟩ = some (.int .i64 b) ∧ wz2.cell? ⟨w.heap.size, 3, none⟩ = some (.int .i64 c) ∧ wz2.cell? ⟨w.heap.size, 4, none⟩ = some (.bool z) ∧ wz2.cell? ⟨w.heap.size, 5, none⟩ = some (.int .i64 v) ∧ wz2.cell? ⟨12, 0, none⟩ = some (.int .i64 1) ∧ wz2.cell? ⟨12, 1, none⟩ = some (.int .i64 9) ∧ wz2.cell? ⟨13, 0, none⟩ = some (.int .i64 0) ∧ wz2.cell? ⟨13, 1, none⟩ = some (.int .i64 9) ∧ wz2.cell? ⟨14, 0, none⟩ = some (.int .i64 1) ∧ wz2.cell? ⟨14, 1, none⟩ = some (.int .i64 4) ∧ wz2.cell? ⟨15, 0, none⟩ = some (.int .i64 0) ∧ wz2.cell? ⟨15, 1, none⟩ = some (.int .i64 4) ∧ Kp w wz2 := ⟨kz2.cell sz1.1, kz2.cell sz1.2.1, kz2.cell sz1.2.2.1, kz2.cell sz1.2.2.2.1, kz2.cell sz1.2.2.2.2.1, kz2.cell sz1.2.2.2.2.2.1, kz2.cell sz1.2.2.2.2.2.2.1, kz2.cell sz1.2.2.2.2.2.2.2.1, kz2.cell sz1.2.2.2.2.2.2.2.2.1, kz2.cell sz1.2.2.2.2.2.2.2.2.2.1, kz2.cell sz1.2.2.2.2.2.2.2.2.2.2.1, kz2.cell sz1.2.2.2.2.2.2.2.2.2.2.2.1, kz2.cell sz1.2.2.2.2.2.2.2.2.2.2.2.2.1, kz2.cell sz1.2.2.2.2.2.2.2.2.2.2.2.2.2.1, sz1.2.2.2.2.2.2.2.2.2.2.2.2.2.2.trans kz2⟩
  clear sz1 kz2
  go_wp2_with fail
  go_ret
  exact ⟨rfl, sz2.2.2.2.2.2.2.2.2.2.2.2.2.2.2⟩

set_option maxRecDepth 100000 in
set_option maxHeartbeats 4000000 in
theorem kn_yes (n : ByteArray) (a b c : Int) (z : Bool) (v : Int) (w : World) (hs : Spans w) (h0 : spB 1 9 a = true) (h1 : spB 0 9 b = true) (h2 : spB 1 4 c = true) :
    Calls Tryd.prog 76 #[kv n a b c z v] w fun e' w' => e' = .returned (.bool (spB 0 4 v)) ∧ Kp w w' := by
  have s0 : (w.alloc (.cells #[.string n, .int .i64 a, .int .i64 b, .int .i64 c, .bool z, .int .i64 v] 62)).cell? ⟨w.heap.size, 0, none⟩ = some (.string n) ∧ (w.alloc (.cells #[.string n, .int .i64 a, .int .i64 b, .int .i64 c, .bool z, .int .i64 v] 62)).cell? ⟨w.heap.size, 1, none⟩ = some (.int .i64 a) ∧ (w.alloc (.cells #[.string n, .int .i64 a, .int .i64 b, .int .i64 c, .bool z, .int .i64 v] 62)).cell? ⟨w.heap.size, 2, none⟩ = some (.int .i64 b) ∧ (w.alloc (.cells #[.string n, .int .i64 a, .int .i64 b, .int .i64 c, .bool z, .int .i64 v] 62)).cell? ⟨w.heap.size, 3, none⟩ = some (.int .i64 c) ∧ (w.alloc (.cells #[.string n, .int .i64 a, .int .i64 b, .int .i64 c, .bool z, .int .i64 v] 62)).cell? ⟨w.heap.size, 4, none⟩ = some (.bool z) ∧ (w.alloc (.cells #[.string n, .int .i64 a, .int .i64 b, .int .i64 c, .bool z, .int .i64 v] 62)).cell? ⟨w.heap.size, 5, none⟩ = some (.int .i64 v) ∧ (w.alloc (.cells #[.string n, .int .i64 a, .int .i64 b, .int .i64 c, .bool z, .int .i64 v] 62)).cell? ⟨12, 0, none⟩ = some (.int .i64 1) ∧ (w.alloc (.cells #[.string n, .int .i64 a, .int .i64 b, .int .i64 c, .bool z, .int .i64 v] 62)).cell? ⟨12, 1, none⟩ = some (.int .i64 9) ∧ (w.alloc (.cells #[.string n, .int .i64 a, .int .i64 b, .int .i64 c, .bool z, .int .i64 v] 62)).cell? ⟨13, 0, none⟩ = some (.int .i64 0) ∧ (w.alloc (.cells #[.string n, .int .i64 a, .int .i64 b, .int .i64 c, .bool z, .int .i64 v] 62)).cell? ⟨13, 1, none⟩ = some (.int .i64 9) ∧ (w.alloc (.cells #[.string n, .int .i64 a, .int .i64 b, .int .i64 c, .bool z, .int .i64 v] 62)).cell? ⟨14, 0, none⟩ = some (.int .i64 1) ∧ (w.alloc (.cells #[.string n, .int .i64 a, .int .i64 b, .int .i64 c, .bool z, .int .i64 v] 62)).cell? ⟨14, 1, none⟩ = some (.int .i64 4) ∧ (w.alloc (.cells #[.string n, .int .i64 a, .int .i64 b, .int .i64 c, .bool z, .int .i64 v] 62)).cell? ⟨15, 0, none⟩ = some (.int .i64 0) ∧ (w.alloc (.cells #[.string n, .int .i64 a, .int .i64 b, .int .i64 c, .bool z, .int .i64 v] 62)).cell? ⟨15, 1, none⟩ = some (.int .i64 4) ∧ Kp w (w.alloc (.cells #[.string n, .int .i64 a, .int .i64 b, .int .i64 c, .bool z, .int .i64 v] 62)) :=
    ⟨by simp [go_sem], by simp [go_sem], by simp [go_sem], by simp [go_sem], by simp [go_sem], by simp [go_sem], ((Kp.refl w).alloc _).cell hs.strength.1, ((Kp.refl w).alloc _).cell hs.strength.2, ((Kp.refl w).alloc _).cell hs.moves.1, ((Kp.refl w).alloc _).cell hs.moves.2, ((Kp.refl w).alloc _).cell hs.steps.1, ((Kp.refl w).alloc _).cell hs.steps.2, ((Kp.refl w).alloc _).cell hs.view.1, ((Kp.refl w).alloc _).cell hs.view.2, (Kp.refl w).alloc _⟩
  clear hs
  go_enter Tryd.func76, Tryd.ntmps76
  go_wp2_with fail
  generalize w.alloc (.cells #[.string n, .int .i64 a, .int .i64 b, .int .i64 c, .bool z, .int .i64 v] 62) = W0 at *
  refine (has_any _ _ _ _).mono ?_
  rintro e0 wz0 ⟨rfl, kz0⟩
  have sz0 : wz0.cell? ⟨w.heap.size, 0, none⟩ = some (.string n) ∧ wz0.cell? ⟨w.heap.size, 1, none⟩ = some (.int .i64 a) ∧ wz0.cell? ⟨w.heap.size, 2, none⟩ = some (.int .i64 b) ∧ wz0.cell? ⟨w.heap.size, 3, none⟩ = some (.int .i64 c) ∧ wz0.cell? ⟨w.heap.size, 4, none⟩ = some (.bool z) ∧ wz0.cell? ⟨w.heap.size, 5, none⟩ = some (.int .i64 v) ∧ wz0.cell? ⟨12, 0, none⟩ = some (.int .i64 1) ∧ wz0.cell? ⟨12, 1, none⟩ = some (.int .i64 9) ∧ wz0.cell? ⟨13, 0, none⟩ = some (.int .i64 0) ∧ wz0.cell? ⟨13, 1, none⟩ = some (.int .i64 9) ∧ wz0.cell? ⟨14, 0, none⟩ = some (.int .i64 1) ∧ wz0.cell? ⟨14, 1, none⟩ = some (.int .i64 4) ∧ wz0.cell? ⟨15, 0, none⟩ = some (.int .i64 0) ∧ wz0.cell? ⟨15, 1, none⟩ = some (.int .i64 4) ∧ Kp w wz0 := ⟨kz0.cell s0.1, kz0.cell s0.2.1, kz0.cell s0.2.2.1, kz0.cell s0.2.2.2.1, kz0.cell s0.2.2.2.2.1, kz0.cell s0.2.2.2.2.2.1, kz0.cell s0.2.2.2.2.2.2.1, kz0.cell s0.2.2.2.2.2.2.2.1, kz0.cell s0.2.2.2.2.2.2.2.2.1, kz0.cell s0.2.2.2.2.2.2.2.2.2.1, kz0.cell s0.2.2.2.2.2.2.2.2.2.2.1, kz0.cell s0.2.2.2.2.2.2.2.2.2.2.2.1, kz0.cell s0.2.2.2.2.2.2.2.2.2.2.2.2.1, kz0.cell s0.2.2.2.2.2.2.2.2.2.2.2.2.2.1, s0.2.2.2.2.2.2.2.2.2.2.2.2.2.2.trans kz0⟩
  clear s0 kz0
  go_wp2_with fail
  refine (has_any _ _ _ _).mono ?_
  rintro e1 wz1 ⟨rfl, kz1⟩
  have sz1 : wz1.cell? ⟨w.heap.size, 0, none⟩ = some (.string n) ∧ wz1.cell? ⟨w.heap.size, 1, none⟩ = some (.int .i64 a) ∧ wz1.cell? ⟨w.heap.size, 2, none⟩ = some (.int .i64 b) ∧ wz1.cell? ⟨w.heap.size, 3, none⟩ = some (.int .i64 c) ∧ wz1.cell? ⟨w.heap.size, 4, none⟩ = some (.bool z) ∧ wz1.cell? ⟨w.heap.size, 5, none⟩ = some (.int .i64 v) ∧ wz1.cell? ⟨12, 0, none⟩ = some (.int .i64 1) ∧ wz1.cell? ⟨12, 1, none⟩ = some (.int .i64 9) ∧ wz1.cell? ⟨13, 0, none⟩ = some (.int .i64 0) ∧ wz1.cell? ⟨13, 1, none⟩ = some (.int .i64 9) ∧ wz1.cell? ⟨14, 0, none⟩ = some (.int .i64 1) ∧ wz1.cell? ⟨14, 1, none⟩ = some (.int .i64 4) ∧ wz1.cell? ⟨15, 0, none⟩ = some (.int .i64 0) ∧ wz1.cell? ⟨15, 1, none⟩ = some (.int .i64 4) ∧ Kp w wz1 := ⟨kz1.cell sz0.1, kz1.cell sz0.2.1, kz1.cell sz0.2.2.1, kz1.cell sz0.2.2.2.1, kz1.cell sz0.2.2.2.2.1, kz1.cell sz0.2.2.2.2.2.1, kz1.cell sz0.2.2.2.2.2.2.1, kz1.cell sz0.2.2.2.2.2.2.2.1, kz1.cell sz0.2.2.2.2.2.2.2.2.1, kz1.cell sz0.2.2.2.2.2.2.2.2.2.1, kz1.cell sz0.2.2.2.2.2.2.2.2.2.2.1, kz1.cell sz0.2.2.2.2.2.2.2.2.2.2.2.1, kz1.cell sz0.2.2.2.2.2.2.2.2.2.2.2.2.1, kz1.cell sz0.2.2.2.2.2.2.2.2.2.2.2.2.2.1, sz0.2.2.2.2.2.2.2.2.2.2.2.2.2.2.trans kz1⟩
  clear sz0 kz1
  go_wp2_with fail
  refine (has_any _ _ _ _).mono ?_
  rintro e2 wz2 ⟨rfl, kz2⟩
  have sz2 : wz2.cell? ⟨w.heap.size, 0, none⟩ = some (.string n) ∧ wz2.cell? ⟨w.heap.size, 1, none⟩ = some (.int .i64 a) ∧ wz2.cell? ⟨w.heap.size, 2, none⟩ = some (.int .i64 b) ∧ wz2.cell? ⟨w.heap.size, 3, none⟩ = some (.int .i64 c) ∧ wz2.cell? ⟨w.heap.size, 4, none⟩ = some (.bool z) ∧ wz2.cell? ⟨w.heap.size, 5, none⟩ = some (.int .i64 v) ∧ wz2.cell? ⟨12, 0, none⟩ = some (.int .i64 1) ∧ wz2.cell? ⟨12, 1, none⟩ = some (.int .i64 9) ∧ wz2.cell? ⟨13, 0, none⟩ = some (.int .i64 0) ∧ wz2.cell? ⟨13, 1, none⟩ = some (.int .i64 9) ∧ wz2.cell? ⟨14, 0, none⟩ = some (.int .i64 1) ∧ wz2.cell? ⟨14, 1, none⟩ = some (.int .i64 4) ∧ wz2.cell? ⟨15, 0, none⟩ = some (.int .i64 0) ∧ wz2.cell? ⟨15, 1, none⟩ = some (.int .i64 4) ∧ Kp w wz2 := ⟨kz2.cell sz1.1, kz2.cell sz1.2.1, kz2.cell sz1.2.2.1, kz2.cell sz1.2.2.2.1, kz2.cell sz1.2.2.2.2.1, kz2.cell sz1.2.2.2.2.2.1, kz2.cell sz1.2.2.2.2.2.2.1, kz2.cell sz1.2.2.2.2.2.2.2.1, kz2.cell sz1.2.2.2.2.2.2.2.2.1, kz2.cell sz1.2.2.2.2.2.2.2.2.2.1, kz2.cell sz1.2.2.2.2.2.2.2.2.2.2.1, kz2.cell sz1.2.2.2.2.2.2.2.2.2.2.2.1, kz2.cell sz1.2.2.2.2.2.2.2.2.2.2.2.2.1, kz2.cell sz1.2.2.2.2.2.2.2.2.2.2.2.2.2.1, sz1.2.2.2.2.2.2.2.2.2.2.2.2.2.2.trans kz2⟩
  clear sz1 kz2
  go_wp2_with fail
  refine (has_any _ _ _ _).mono ?_
  rintro e3 wz3 ⟨rfl, kz3⟩
  have sz3 : wz3.cell? ⟨w.heap.size, 0, none⟩ = some (.string n) ∧ wz3.cell? ⟨w.heap.size, 1, none⟩ = some (.int .i64 a) ∧ wz3.cell? ⟨w.heap.size, 2, none⟩ = some (.int .i64 b) ∧ wz3.cell? ⟨w.heap.size, 3, none⟩ = some (.int .i64 c) ∧ wz3.cell? ⟨w.heap.size, 4, none⟩ = some (.bool z) ∧ wz3.cell? ⟨w.heap.size, 5, none⟩ = some (.int .i64 v) ∧ wz3.cell? ⟨12, 0, none⟩ = some (.int .i64 1) ∧ wz3.cell? ⟨12, 1, none⟩ = some (.int .i64 9) ∧ wz3.cell? ⟨13, 0, none⟩ = some (.int .i64 0) ∧ wz3.cell? ⟨13, 1, none⟩ = some (.int .i64 9) ∧ wz3.cell? ⟨14, 0, none⟩ = some (.int .i64 1) ∧ wz3.cell? ⟨14, 1, none⟩ = some (.int .i64 4) ∧ wz3.cell? ⟨15, 0, none⟩ = some (.int .i64 0) ∧ wz3.cell? ⟨15, 1, none⟩ = some (.int .i64 4) ∧ Kp w wz3 := ⟨kz3.cell sz2.1, kz3.cell sz2.2.1, kz3.cell sz2.2.2.1, kz3.cell sz2.2.2.2.1, kz3.cell sz2.2.2.2.2.1, kz3.cell sz2.2.2.2.2.2.1, kz3.cell sz2.2.2.2.2.2.2.1, kz3.cell sz2.2.2.2.2.2.2.2.1, kz3.cell sz2.2.2.2.2.2.2.2.2.1, kz3.cell sz2.2.2.2.2.2.2.2.2.2.1, kz3.cell sz2.2.2.2.2.2.2.2.2.2.2.1, kz3.cell sz2.2.2.2.2.2.2.2.2.2.2.2.1, kz3.cell sz2.2.2.2.2.2.2.2.2.2.2.2.2.1, kz3.cell sz2.2.2.2.2.2.2.2.2.2.2.2.2.2.1, sz2.2.2.2.2.2.2.2.2.2.2.2.2.2.2.trans kz3⟩
  clear sz2 kz3
  go_wp2_with fail
  go_ret
  exact ⟨rfl, sz3.2.2.2.2.2.2.2.2.2.2.2.2.2.2⟩

theorem hasLimits_any (t k : Value) (a b c d e : Int) (w : World) (hs : Spans w) :
    Calls Tryd.prog 74 #[rv t k a b c d e] w fun e' w' => e' = .returned (.bool (limB a b c d e)) ∧ Kp w w' := by
  unfold limB
  cases h0 : spB 1 4 a
  · exact lim_no1 t k a b c d e w hs h0
  · cases h1 : spB 0 9 b
    · exact lim_no2 t k a b c d e w hs h0 h1
    · cases h2 : spB 1 9 c
      · exact lim_no3 t k a b c d e w hs h0 h1 h2
      · cases h3 : spB 0 20 d
        · exact lim_no4 t k a b c d e w hs h0 h1 h2 h3
        · exact lim_yes t k a b c d e w hs h0 h1 h2 h3
theorem kNumbers_any (n : ByteArray) (a b c : Int) (z : Bool) (v : Int) (w : World) (hs : Spans w) :
    Calls Tryd.prog 76 #[kv n a b c z v] w fun e' w' => e' = .returned (.bool (numK ⟨n, a, b, c, z, v⟩)) ∧ Kp w w' := by
  unfold numK
  simp only
  cases h0 : spB 1 9 a
  · exact kn_no1 n a b c z v w hs h0
  · cases h1 : spB 0 9 b
    · exact kn_no2 n a b c z v w hs h0 h1
    · cases h2 : spB 1 4 c
      · exact kn_no3 n a b c z v w hs h0 h1 h2
      · exact kn_yes n a b c z v w hs h0 h1 h2

end Go.Proofs.YtpdcmpojjchobaaDoor

/-
  Slices of terrains and of kinds as lists; the program's lists of their names. Nothing that was there is changed.
-/
namespace Go.Proofs.YtpdcmpojjchobaaDoor
open Go.RowKit

/-- The cells of a terrain, whose costs read as a list. -/
def TerAt (w : World) (g o : Nat) (x : Ter) : Prop :=
  ∃ A c, (w.cell? ⟨g, o, none⟩ = some (.string x.name) ∧ w.cell? ⟨g, o + 1, none⟩ = some (.slice A x.cost.length c) ∧ w.cell? ⟨g, o + 2, none⟩ = some (.int .i64 x.shift) ∧ w.cell? ⟨g, o + 3, none⟩ = some (.int .i64 x.height) ∧ w.cell? ⟨g, o + 4, none⟩ = some (.bool x.blocks)) ∧ RdI w (.slice A x.cost.length c) x.cost
theorem TerAt.keep {w w' : World} {g o : Nat} {x : Ter} (h : TerAt w g o x) (k : Kp w w') : TerAt w' g o x := by
  obtain ⟨A, c, h, hr⟩ := h
  exact ⟨A, c, ⟨k.cell h.1, k.cell h.2.1, k.cell h.2.2.1, k.cell h.2.2.2.1, k.cell h.2.2.2.2⟩, hr.keep k⟩
def KndAt (w : World) (g o : Nat) (x : Knd) : Prop :=
  w.cell? ⟨g, o, none⟩ = some (.string x.name) ∧ w.cell? ⟨g, o + 1, none⟩ = some (.int .i64 x.str) ∧ w.cell? ⟨g, o + 2, none⟩ = some (.int .i64 x.mov) ∧ w.cell? ⟨g, o + 3, none⟩ = some (.int .i64 x.stp) ∧ w.cell? ⟨g, o + 4, none⟩ = some (.bool x.zone) ∧ w.cell? ⟨g, o + 5, none⟩ = some (.int .i64 x.view)
theorem KndAt.keep {w w' : World} {g o : Nat} {x : Knd} (h : KndAt w g o x) (k : Kp w w') : KndAt w' g o x :=
  ⟨k.cell h.1, k.cell h.2.1, k.cell h.2.2.1, k.cell h.2.2.2.1, k.cell h.2.2.2.2.1, k.cell h.2.2.2.2.2⟩
/-- The slice with this address, length and room reads as the list l of terrains. -/
def RdT (w : World) (A : Option Addr) (n : Nat) (l : List Ter) : Prop :=
  l.length = n ∧ (0 < n → ∃ g off, A = some ⟨g, off, none⟩ ∧ ∀ i x, l[i]? = some x → TerAt w g (off + i * 5) x)
theorem RdT.keep {w w' : World} {A : Option Addr} {n : Nat} {l : List Ter} (h : RdT w A n l) (k : Kp w w') : RdT w' A n l := ⟨h.1, fun h0 => by
  obtain ⟨g, off, e, hc⟩ := h.2 h0
  exact ⟨g, off, e, fun i x hx => (hc i x hx).keep k⟩⟩
def RdK (w : World) (A : Option Addr) (n : Nat) (l : List Knd) : Prop :=
  l.length = n ∧ (0 < n → ∃ g off, A = some ⟨g, off, none⟩ ∧ ∀ i x, l[i]? = some x → KndAt w g (off + i * 6) x)
theorem RdK.keep {w w' : World} {A : Option Addr} {n : Nat} {l : List Knd} (h : RdK w A n l) (k : Kp w w') : RdK w' A n l := ⟨h.1, fun h0 => by
  obtain ⟨g, off, e, hc⟩ := h.2 h0
  exact ⟨g, off, e, fun i x hx => (hc i x hx).keep k⟩⟩

def OwnS (w : World) (base : Nat) (v : Value) (l : List ByteArray) : Prop := w.ownsRow base 9 1 v l.length (l.map fun x => .string x)
theorem OwnS.nil (w : World) (base : Nat) : OwnS w base (.slice none 0 0) [] := World.ownsRow_nil w base _ 1
theorem OwnS.keep {w w' : World} {base : Nat} {v : Value} {l : List ByteArray} (h : OwnS w base v l) (hk : Kp w w') : OwnS w' base v l := ownsRow_keep h hk
theorem OwnS.snoc {w : World} {base : Nat} {v : Value} {l : List ByteArray} {x : ByteArray} (h : w.ownsRow base 9 1 v (l.length + 1) (l.map (fun x => .string x) ++ [.string x])) : OwnS w base v (l ++ [x]) := by
  unfold OwnS
  rw [List.map_append, List.length_append]
  exact h
/-- A new list of strings. -/
def NamesPost (n : Nat) (l : List ByteArray) (w : World) (e : Ending) (w' : World) : Prop :=
  ∃ A c, e = .returned (.slice A n c) ∧ RdS w' (.slice A n c) l ∧ n ≤ c ∧ c ≤ 9223372036854775807 ∧ Kp w w'
theorem OwnS.post {w w' : World} {base : Nat} {v : Value} {l : List ByteArray} {n : Nat} (h : OwnS w' base v l) (hn : l.length = n) (k : Kp w w') : NamesPost n l w (.returned v) w' := by
  rcases h.2 with ⟨rfl, h0⟩ | ⟨g, cap, cur, rfl, hb, hg, hc, hm, hs, ht⟩
  · have e : n = 0 := by omega
    subst e
    exact ⟨none, 0, rfl, ⟨none, 0, by rw [hn], fun h0 => by omega⟩, by omega, by omega, k⟩
  · subst hn
    refine ⟨_, _, rfl, ⟨_, _, rfl, fun _ => ⟨g, 0, rfl, fun i x hx => ?_⟩⟩, by omega, by unfold maxLen at hm; omega, k⟩
    have hi : i < l.length := (List.getElem?_eq_some_iff.1 hx).1
    rw [Nat.zero_add]
    exact (World.ownsRow.cellAt h i (by omega)).trans (by simp [hx])

theorem infoStr : (Tryd.prog.info? 9).map (fun i => (i.zero, i.size, i.bytes)) = some (some (.string ByteArray.empty), 1, 16) := by kernel_rfl
theorem mkStrs (n : Nat) (hn : n ≤ 1000) (w : World) :
    (Instr.makeSlice 117 (.int .i64 0) (.int .i64 (n : Int))).run Tryd.prog w = .ok (.slice (some ⟨w.heap.size, 0, none⟩) 0 n) (w.alloc (.cells (madeCells #[.string ByteArray.empty] n) 9)) := by
  obtain ⟨i, hi, hz, hs, hb⟩ := info_parts infoStr
  have hr := run_make (P := Tryd.prog) w 117 9 i (.string ByteArray.empty) Tryd.underlying117 hi hz .i64 .i64 0 (n : Int) (Int.le_refl _) (by omega) (by rw [hb]; omega) (by omega)
  rw [hs, Int.toNat_natCast, Nat.mul_one] at hr
  exact hr
theorem ownS_made (w : World) (n : Nat) (hn : n ≤ 1000) : OwnS (w.alloc (.cells (madeCells #[.string ByteArray.empty] n) 9)) w.heap.size (.slice (some ⟨w.heap.size, 0, none⟩) 0 n) [] := by
  unfold OwnS
  exact World.ownsRow_made w _ n (Nat.le_refl _) (by simp only [maxLen]; omega) (by rw [size_madeCells, Nat.mul_one])
theorem one_new (w : World) (x : Value) (t : TypeId) (b : Nat) (hb : b = w.heap.size) : ∀ j u, [x][j]? = some u → (w.alloc (.cells #[x] t)).cell? ((⟨b, 0, none⟩ : Addr).add j) = some u := by
  subst hb
  intro j u hj
  match j, hj with
  | 0, hj => simp at hj; subst hj; simp [Addr.add]

set_option maxRecDepth 100000 in
set_option maxHeartbeats 1000000 in
theorem terrainNames_any (At : Option Addr) (nt ct : Nat) (l : List Ter) (o : Value) (a b c d e : Int) (w : World) (h : RdT w At nt l) (hl : nt ≤ 1000) :
    Calls Tryd.prog 78 #[rv (.slice At nt ct) o a b c d e] w (NamesPost nt (tNames l) w) := by
  have HN := Lib.hid h.1
  have HA := Lib.hid h.2
  have hmk := fun w => mkStrs nt hl w
  obtain ⟨j0, hj0, hz0, hs0, hb0⟩ := info_parts infoStr
  clear h
  go_enter Tryd.func78, Tryd.ntmps78
  go_wp2_with fail
  have o1 := ownS_made (w.alloc (.cells #[.slice At nt ct, o, .int .i64 a, .int .i64 b, .int .i64 c, .int .i64 d, .int .i64 e] 32)) nt hl
  have k1 : Kp w ((w.alloc (.cells #[.slice At nt ct, o, .int .i64 a, .int .i64 b, .int .i64 c, .int .i64 d, .int .i64 e] 32)).alloc (.cells (madeCells #[.string ByteArray.empty] nt) 9)) := ((Kp.refl w).alloc _).alloc _
  clear hmk
  go_loopw [3, 5, 13] (fun v _ i wx => ∃ k : Nat, k ≤ nt ∧ i = .int .i64 k ∧ OwnS wx (w.heap.size + 1) v (tNames (l.take k)) ∧ Kp w wx) (fun _ _ i _ => nt - (intOf i).toNat)
  case atStart => exact ⟨0, by omega, rfl, by simpa [tNames] using o1, k1⟩
  case round =>
    clear o1 k1
    obtain ⟨k, hk, rfl, ho, kr⟩ := hrel
    by_cases hlt : k < nt
    · have hlt' : (k : Int) < nt := by omega
      obtain ⟨g, off, rfl, hc⟩ := HA.out (by omega)
      obtain ⟨x, hx⟩ : ∃ x, l[k]? = some x := ⟨l[k]'(by have := HN.out; omega), List.getElem?_eq_getElem _⟩
      have hT := (hc k x hx).keep kr
      obtain ⟨Ac, cc, ⟨a0, a1, a2, a3, a4⟩, _⟩ := hT
      have HO := Lib.hid ho
      have HX := Lib.hid hx
      clear hc hx ho
      obtain ⟨nm, cs, sh, hg, bl⟩ := x
      simp only at a0 a1 a2 a3 a4
      generalize cs.length = nc at a1
      have hln : Hid ((tNames (l.take k)).length ≤ k) := Lib.hid (by simp only [tNames, List.length_map, List.length_take]; omega)
      have HS : Hid (tNames (l.take (k + 1)) = tNames (l.take k) ++ [nm]) := Lib.hid (by unfold tNames; rw [List.take_add_one, HX.out]; simp)
      have hbk : w.heap.size ≤ wr.heap.size := kr.size
      go_wp2_with (at_builtin; refine wpList_append_own_at _ rfl (.tmp 17) (.tmp 20) 117 rfl (w.heap.size + 1) 9 j0 (.string ByteArray.empty) 1 16 Tryd.underlying117 hj0 hz0 hs0 hb0 rfl (by decide) _ (tNames (l.take k)).length ((tNames (l.take k)).map fun x => .string x) rfl (World.ownsRow.alloc (World.ownsRow.alloc HO.out _) _) ⟨wr.heap.size + 1, 0, none⟩ 1 1 [.string nm] rfl rfl (one_new _ _ _ _ (by simp)) (by simp [Value.oneCell']) (by have := hln.out; simp only [maxLen]; omega) (by have := hln.out; omega) (by simp; omega) ?_; intro v' w3 hown2 hgrow2 hnil2 hat2; clear hnil2 hat2; have O3 := Lib.hid (OwnS.snoc (x := nm) hown2); have K3 : Kp w w3 := ((kr.alloc _).alloc _).grown hgrow2 (fun k e => (by have := (World.ownsRow.lt HO.out k e).1; omega)); clear hown2 hgrow2)
      go_roundw
      case rel => exact ⟨k + 1, by omega, by go_num, by rw [HS.out]; exact O3.out, K3⟩
      case measure => simp [intOf]; omega
    · obtain rfl : k = nt := by omega
      go_wp2_with fail
      go_ret
      have e : l.take k = l := List.take_of_length_le (by have := HN.out; omega)
      rw [e] at ho
      exact ho.post (by have := HN.out; simpa [tNames] using this) kr

set_option maxRecDepth 100000 in
set_option maxHeartbeats 1000000 in
theorem kindNames_any (At : Option Addr) (nt ct : Nat) (l : List Knd) (o : Value) (a b c d e : Int) (w : World) (h : RdK w At nt l) (hl : nt ≤ 1000) :
    Calls Tryd.prog 79 #[rv o (.slice At nt ct) a b c d e] w (NamesPost nt (kNames l) w) := by
  have HN := Lib.hid h.1
  have HA := Lib.hid h.2
  have hmk := fun w => mkStrs nt hl w
  obtain ⟨j0, hj0, hz0, hs0, hb0⟩ := info_parts infoStr
  clear h
  go_enter Tryd.func79, Tryd.ntmps79
  go_wp2_with fail
  have o1 := ownS_made (w.alloc (.cells #[o, .slice At nt ct, .int .i64 a, .int .i64 b, .int .i64 c, .int .i64 d, .int .i64 e] 32)) nt hl
  have k1 : Kp w ((w.alloc (.cells #[o, .slice At nt ct, .int .i64 a, .int .i64 b, .int .i64 c, .int .i64 d, .int .i64 e] 32)).alloc (.cells (madeCells #[.string ByteArray.empty] nt) 9)) := ((Kp.refl w).alloc _).alloc _
  clear hmk
  go_loopw [3, 5, 13] (fun v _ i wx => ∃ k : Nat, k ≤ nt ∧ i = .int .i64 k ∧ OwnS wx (w.heap.size + 1) v (kNames (l.take k)) ∧ Kp w wx) (fun _ _ i _ => nt - (intOf i).toNat)
  case atStart => exact ⟨0, by omega, rfl, by simpa [kNames] using o1, k1⟩
  case round =>
    clear o1 k1
    obtain ⟨k, hk, rfl, ho, kr⟩ := hrel
    by_cases hlt : k < nt
    · have hlt' : (k : Int) < nt := by omega
      obtain ⟨g, off, rfl, hc⟩ := HA.out (by omega)
      obtain ⟨x, hx⟩ : ∃ x, l[k]? = some x := ⟨l[k]'(by have := HN.out; omega), List.getElem?_eq_getElem _⟩
      have hT := (hc k x hx).keep kr
      obtain ⟨a0, a1, a2, a3, a4, a5⟩ := hT
      have HO := Lib.hid ho
      have HX := Lib.hid hx
      clear hc hx ho
      obtain ⟨nm, ks, km, kt, kz, kw⟩ := x
      simp only at a0 a1 a2 a3 a4 a5
      have hln : Hid ((kNames (l.take k)).length ≤ k) := Lib.hid (by simp only [kNames, List.length_map, List.length_take]; omega)
      have HS : Hid (kNames (l.take (k + 1)) = kNames (l.take k) ++ [nm]) := Lib.hid (by unfold kNames; rw [List.take_add_one, HX.out]; simp)
      have hbk : w.heap.size ≤ wr.heap.size := kr.size
      go_wp2_with (at_builtin; refine wpList_append_own_at _ rfl (.tmp 17) (.tmp 20) 117 rfl (w.heap.size + 1) 9 j0 (.string ByteArray.empty) 1 16 Tryd.underlying117 hj0 hz0 hs0 hb0 rfl (by decide) _ (kNames (l.take k)).length ((kNames (l.take k)).map fun x => .string x) rfl (World.ownsRow.alloc (World.ownsRow.alloc HO.out _) _) ⟨wr.heap.size + 1, 0, none⟩ 1 1 [.string nm] rfl rfl (one_new _ _ _ _ (by simp)) (by simp [Value.oneCell']) (by have := hln.out; simp only [maxLen]; omega) (by have := hln.out; omega) (by simp; omega) ?_; intro v' w3 hown2 hgrow2 hnil2 hat2; clear hnil2 hat2; have O3 := Lib.hid (OwnS.snoc (x := nm) hown2); have K3 : Kp w w3 := ((kr.alloc _).alloc _).grown hgrow2 (fun k e => (by have := (World.ownsRow.lt HO.out k e).1; omega)); clear hown2 hgrow2)
      go_roundw
      case rel => exact ⟨k + 1, by omega, by go_num, by rw [HS.out]; exact O3.out, K3⟩
      case measure => simp [intOf]; omega
    · obtain rfl : k = nt := by omega
      go_wp2_with fail
      go_ret
      have e : l.take k = l := List.take_of_length_le (by have := HN.out; omega)
      rw [e] at ho
      exact ho.post (by have := HN.out; simpa [kNames] using this) kr

end Go.Proofs.YtpdcmpojjchobaaDoor

/-
  The program's test of a terrain's numbers and its test of rules return what plain functions on lists say, and change nothing that was there. The ranges hold what the program's text lays.
-/
namespace Go.Proofs.YtpdcmpojjchobaaDoor
open Go.RowKit

abbrev tv (n : ByteArray) (A : Option Addr) (nc cc : Nat) (s h : Int) (b : Bool) : Value := .agg #[.string n, .slice A nc cc, .int .i64 s, .int .i64 h, .bool b]
theorem dropA {α : Type} {l : List α} {k : Nat} {x : α} (h : l[k]? = some x) : l.drop k = x :: l.drop (k + 1) := by
  obtain ⟨hk, rfl⟩ := List.getElem?_eq_some_iff.1 h
  exact List.drop_eq_getElem_cons hk
theorem allA_no {α : Type} {f : α → Bool} {x : α} {l : List α} (h : f x = false) : (x :: l).all f = false := by simp [h]
theorem allA_go {α : Type} {f : α → Bool} {x : α} {l : List α} (h : f x = true) : (x :: l).all f = l.all f := by simp [h]

set_option maxRecDepth 100000 in
set_option maxHeartbeats 2000000 in
theorem tNumbers_any (n : ByteArray) (A : Option Addr) (nc cc : Nat) (s h : Int) (b : Bool) (l : List Int) (nk : Nat) (w : World) (hs : Spans w) (hl : l.length = nc) (hr : RdI w (.slice A nc cc) l) (hn : nc ≤ 1048576) (_hk : nk ≤ 1048576) :
    Calls Tryd.prog 75 #[tv n A nc cc s h b, .int .i64 (nk : Int)] w fun e w' => e = .returned (.bool (numT nk ⟨n, l, s, h, b⟩)) ∧ Kp w w' := by
  have s0 : (w.alloc (.cells #[.string n, .slice A nc cc, .int .i64 s, .int .i64 h, .bool b] 70)).cell? ⟨w.heap.size, 0, none⟩ = some (.string n) ∧ (w.alloc (.cells #[.string n, .slice A nc cc, .int .i64 s, .int .i64 h, .bool b] 70)).cell? ⟨w.heap.size, 1, none⟩ = some (.slice A nc cc) ∧ (w.alloc (.cells #[.string n, .slice A nc cc, .int .i64 s, .int .i64 h, .bool b] 70)).cell? ⟨w.heap.size, 2, none⟩ = some (.int .i64 s) ∧ (w.alloc (.cells #[.string n, .slice A nc cc, .int .i64 s, .int .i64 h, .bool b] 70)).cell? ⟨w.heap.size, 3, none⟩ = some (.int .i64 h) ∧ (w.alloc (.cells #[.string n, .slice A nc cc, .int .i64 s, .int .i64 h, .bool b] 70)).cell? ⟨w.heap.size, 4, none⟩ = some (.bool b) ∧ (w.alloc (.cells #[.string n, .slice A nc cc, .int .i64 s, .int .i64 h, .bool b] 70)).cell? ⟨9, 0, none⟩ = some (.int .i64 0) ∧ (w.alloc (.cells #[.string n, .slice A nc cc, .int .i64 s, .int .i64 h, .bool b] 70)).cell? ⟨9, 1, none⟩ = some (.int .i64 9) ∧ (w.alloc (.cells #[.string n, .slice A nc cc, .int .i64 s, .int .i64 h, .bool b] 70)).cell? ⟨10, 0, none⟩ = some (.int .i64 (-3)) ∧ (w.alloc (.cells #[.string n, .slice A nc cc, .int .i64 s, .int .i64 h, .bool b] 70)).cell? ⟨10, 1, none⟩ = some (.int .i64 3) ∧ (w.alloc (.cells #[.string n, .slice A nc cc, .int .i64 s, .int .i64 h, .bool b] 70)).cell? ⟨11, 0, none⟩ = some (.int .i64 0) ∧ (w.alloc (.cells #[.string n, .slice A nc cc, .int .i64 s, .int .i64 h, .bool b] 70)).cell? ⟨11, 1, none⟩ = some (.int .i64 3) ∧ Kp w (w.alloc (.cells #[.string n, .slice A nc cc, .int .i64 s, .int .i64 h, .bool b] 70)) :=
    ⟨by simp [go_sem], by simp [go_sem], by simp [go_sem], by simp [go_sem], by simp [go_sem], ((Kp.refl w).alloc _).cell hs.cost.1, ((Kp.refl w).alloc _).cell hs.cost.2, ((Kp.refl w).alloc _).cell hs.shift.1, ((Kp.refl w).alloc _).cell hs.shift.2, ((Kp.refl w).alloc _).cell hs.height.1, ((Kp.refl w).alloc _).cell hs.height.2, (Kp.refl w).alloc _⟩
  have HA : Hid (0 < nc → ∃ g off, A = some ⟨g, off, none⟩ ∧ ∀ i x, l[i]? = some x → w.cell? ⟨g, off + i, none⟩ = some (.int .i64 x)) := Lib.hid (by
    obtain ⟨A', c', e, hr⟩ := hr
    simp only [Value.slice.injEq] at e
    obtain ⟨rfl, _, _⟩ := e
    rw [hl] at hr
    exact hr)
  have HN := Lib.hid hl
  clear hs hr hl
  by_cases hne : nc = nk
  · have en : numT nk ⟨n, l, s, h, b⟩ = (l.all (spB 0 9) && (spB (-3) 3 s && spB 0 3 h)) := by simp [numT, HN.out, hne]
    rw [en]
    have q1 : ((nc : Int) != (nk : Int)) = false := by simp; omega
    have q2 : (nc != nk) = false := by simpa using hne
    obtain ⟨R, hR⟩ : ∃ R, R = l.all (spB 0 9) := ⟨_, rfl⟩
    rw [← hR]
    have HR := Lib.hid hR
    clear en hR hne
    go_enter Tryd.func75, Tryd.ntmps75
    go_wp2_with fail
    generalize w.alloc (.cells #[.string n, .slice A nc cc, .int .i64 s, .int .i64 h, .bool b] 70) = W0 at *
    go_loopw [6, 15] (fun _ i wr => ∃ k : Nat, k ≤ nc ∧ i = .int .i64 k ∧ Hid ((l.drop k).all (spB 0 9) = R) ∧ Kp W0 wr) (fun _ i _ => nc - (intOf i).toNat)
    case atStart => exact ⟨0, by omega, rfl, Lib.hid HR.out.symm, Kp.refl _⟩
    case round =>
      obtain ⟨k, hk, rfl, hE, kr⟩ := hrel
      by_cases hlt : k < nc
      · have hlt' : (k : Int) < nc := by omega
        obtain ⟨g, off, rfl, hc⟩ := HA.out (by omega)
        obtain ⟨x, hx⟩ : ∃ x, l[k]? = some x := ⟨l[k]'(by have := HN.out; omega), List.getElem?_eq_getElem _⟩
        have a0 := kr.cell (s0.2.2.2.2.2.2.2.2.2.2.2.cell (hc k x hx))
        have HX := Lib.hid (dropA hx)
        have c0 := kr.cell s0.2.2.2.2.2.1
        have c1 := kr.cell s0.2.2.2.2.2.2.1
        clear hc hx
        cases hok : spB 0 9 x
        · have HE2 : Hid (R = false) := Lib.hid (by rw [← hE.out, HX.out]; exact allA_no hok)
          go_wp2_with fail
          refine (has_any _ _ _ _).mono ?_
          rintro e1 wa ⟨rfl, ka⟩
          go_wp2_with fail
          go_ret
          exact ⟨ret_bool (by rw [HE2.out]; rfl), s0.2.2.2.2.2.2.2.2.2.2.2.trans (kr.trans ka)⟩
        · have HE2 : Hid ((l.drop (k + 1)).all (spB 0 9) = R) := Lib.hid (by rw [← hE.out, HX.out]; exact (allA_go hok).symm)
          go_wp2_with fail
          refine (has_any _ _ _ _).mono ?_
          rintro e1 wa ⟨rfl, ka⟩
          go_wp2_with fail
          go_roundw
          case rel => exact ⟨k + 1, by omega, by go_num, HE2, kr.trans ka⟩
          case measure => simp [intOf]; omega
      · obtain rfl : k = nc := by omega
        have HR1 : Hid (R = true) := Lib.hid (by rw [← hE.out, List.drop_of_length_le (by rw [HN.out]; omega)]; rfl)
        have c0 := kr.cell s0.2.2.2.2.2.2.2.1
        have c1 := kr.cell s0.2.2.2.2.2.2.2.2.1
        have c2 := kr.cell s0.2.2.1
        cases h1 : spB (-3) 3 s
        · go_wp2_with fail
          refine (has_any _ _ _ _).mono ?_
          rintro e1 wa ⟨rfl, ka⟩
          go_wp2_with fail
          go_ret
          exact ⟨ret_bool (by rw [HR1.out, h1]; rfl), s0.2.2.2.2.2.2.2.2.2.2.2.trans (kr.trans ka)⟩
        · go_wp2_with fail
          refine (has_any _ _ _ _).mono ?_
          rintro e1 wa ⟨rfl, ka⟩
          have Ka : Kp W0 wa := kr.trans ka
          have d0 := Ka.cell s0.2.2.2.2.2.2.2.2.2.1
          have d1 := Ka.cell s0.2.2.2.2.2.2.2.2.2.2.1
          have d2 := Ka.cell s0.2.2.2.1
          go_wp2_with fail
          refine (has_any _ _ _ _).mono ?_
          rintro e2 wb ⟨rfl, kb⟩
          go_wp2_with fail
          go_ret
          exact ⟨ret_bool (by rw [HR1.out, h1]; rfl), s0.2.2.2.2.2.2.2.2.2.2.2.trans (Ka.trans kb)⟩
  · have en : numT nk ⟨n, l, s, h, b⟩ = false := by simp [numT, HN.out, hne]
    rw [en]
    have q1 : ((nc : Int) != (nk : Int)) = true := by simp; omega
    have q2 : (nc != nk) = true := by simpa using hne
    have KE := Lib.hid s0.2.2.2.2.2.2.2.2.2.2.2
    clear en hne s0
    go_enter Tryd.func75, Tryd.ntmps75
    go_wp2_with fail
    go_ret
    exact ⟨rfl, KE.out⟩

end Go.Proofs.YtpdcmpojjchobaaDoor

/-
  The program's test of rules returns what a plain function on lists says, and changes nothing that was there. The ranges hold what the program's text lays.
-/
namespace Go.Proofs.YtpdcmpojjchobaaDoor
open Go.RowKit

/-- What rules are in memory: two slices that read as lists, and bounds. -/
structure RulAt (w : World) (At Ak : Option Addr) (nt nk : Nat) (l : List Ter) (m : List Knd) : Prop where
  rt : RdT w At nt l
  rk : RdK w Ak nk m
  bt : nt ≤ 1048576
  bk : nk ≤ 1048576
  bc : ∀ x ∈ l, x.cost.length ≤ 1048576 ∧ x.name.size ≤ 1048576
  bn : ∀ x ∈ m, x.name.size ≤ 1048576
theorem RulAt.keep {w w' : World} {At Ak : Option Addr} {nt nk : Nat} {l : List Ter} {m : List Knd} (h : RulAt w At Ak nt nk l m) (k : Kp w w') : RulAt w' At Ak nt nk l m :=
  ⟨h.rt.keep k, h.rk.keep k, h.bt, h.bk, h.bc, h.bn⟩

set_option maxRecDepth 100000 in
set_option maxHeartbeats 2000000 in
theorem isRules_no1 (At Ak : Option Addr) (nt nk ct ck : Nat) (l : List Ter) (m : List Knd) (a b c d e : Int) (w : World) (hs : Spans w) (h : RulAt w At Ak nt nk l m) (h1 : spB 1 6 nt = false) :
    Calls Tryd.prog 34 #[rv (.slice At nt ct) (.slice Ak nk ck) a b c d e] w fun e' w' => e' = .returned (.bool false) ∧ Kp w w' := by
  have s0 : (w.alloc (.cells #[.slice At nt ct, .slice Ak nk ck, .int .i64 a, .int .i64 b, .int .i64 c, .int .i64 d, .int .i64 e] 32)).cell? ⟨w.heap.size, 0, none⟩ = some (.slice At nt ct) ∧ (w.alloc (.cells #[.slice At nt ct, .slice Ak nk ck, .int .i64 a, .int .i64 b, .int .i64 c, .int .i64 d, .int .i64 e] 32)).cell? ⟨w.heap.size, 1, none⟩ = some (.slice Ak nk ck) ∧ (w.alloc (.cells #[.slice At nt ct, .slice Ak nk ck, .int .i64 a, .int .i64 b, .int .i64 c, .int .i64 d, .int .i64 e] 32)).cell? ⟨w.heap.size, 2, none⟩ = some (.int .i64 a) ∧ (w.alloc (.cells #[.slice At nt ct, .slice Ak nk ck, .int .i64 a, .int .i64 b, .int .i64 c, .int .i64 d, .int .i64 e] 32)).cell? ⟨w.heap.size, 3, none⟩ = some (.int .i64 b) ∧ (w.alloc (.cells #[.slice At nt ct, .slice Ak nk ck, .int .i64 a, .int .i64 b, .int .i64 c, .int .i64 d, .int .i64 e] 32)).cell? ⟨w.heap.size, 4, none⟩ = some (.int .i64 c) ∧ (w.alloc (.cells #[.slice At nt ct, .slice Ak nk ck, .int .i64 a, .int .i64 b, .int .i64 c, .int .i64 d, .int .i64 e] 32)).cell? ⟨w.heap.size, 5, none⟩ = some (.int .i64 d) ∧ (w.alloc (.cells #[.slice At nt ct, .slice Ak nk ck, .int .i64 a, .int .i64 b, .int .i64 c, .int .i64 d, .int .i64 e] 32)).cell? ⟨w.heap.size, 6, none⟩ = some (.int .i64 e) ∧ (w.alloc (.cells #[.slice At nt ct, .slice Ak nk ck, .int .i64 a, .int .i64 b, .int .i64 c, .int .i64 d, .int .i64 e] 32)).cell? ⟨2, 0, none⟩ = some (.int .i64 1) ∧ (w.alloc (.cells #[.slice At nt ct, .slice Ak nk ck, .int .i64 a, .int .i64 b, .int .i64 c, .int .i64 d, .int .i64 e] 32)).cell? ⟨2, 1, none⟩ = some (.int .i64 6) ∧ (w.alloc (.cells #[.slice At nt ct, .slice Ak nk ck, .int .i64 a, .int .i64 b, .int .i64 c, .int .i64 d, .int .i64 e] 32)).cell? ⟨3, 0, none⟩ = some (.int .i64 1) ∧ (w.alloc (.cells #[.slice At nt ct, .slice Ak nk ck, .int .i64 a, .int .i64 b, .int .i64 c, .int .i64 d, .int .i64 e] 32)).cell? ⟨3, 1, none⟩ = some (.int .i64 4) ∧ Kp w (w.alloc (.cells #[.slice At nt ct, .slice Ak nk ck, .int .i64 a, .int .i64 b, .int .i64 c, .int .i64 d, .int .i64 e] 32)) :=
    ⟨by simp [go_sem], by simp [go_sem], by simp [go_sem], by simp [go_sem], by simp [go_sem], by simp [go_sem], by simp [go_sem], ((Kp.refl w).alloc _).cell hs.terrains.1, ((Kp.refl w).alloc _).cell hs.terrains.2, ((Kp.refl w).alloc _).cell hs.kinds.1, ((Kp.refl w).alloc _).cell hs.kinds.2, (Kp.refl w).alloc _⟩
  have HS := Lib.hid hs
  have HL := Lib.hid h
  have hb1 := h.bt
  have hb2 := h.bk
  clear hs h
  go_enter Tryd.func34, Tryd.ntmps34
  go_wp2_with fail
  generalize w.alloc (.cells #[.slice At nt ct, .slice Ak nk ck, .int .i64 a, .int .i64 b, .int .i64 c, .int .i64 d, .int .i64 e] 32) = W0 at *
  refine (has_any _ _ _ _).mono ?_
  rintro e1 w1 ⟨rfl, k1⟩
  have s1 : w1.cell? ⟨w.heap.size, 0, none⟩ = some (.slice At nt ct) ∧ w1.cell? ⟨w.heap.size, 1, none⟩ = some (.slice Ak nk ck) ∧ w1.cell? ⟨w.heap.size, 2, none⟩ = some (.int .i64 a) ∧ w1.cell? ⟨w.heap.size, 3, none⟩ = some (.int .i64 b) ∧ w1.cell? ⟨w.heap.size, 4, none⟩ = some (.int .i64 c) ∧ w1.cell? ⟨w.heap.size, 5, none⟩ = some (.int .i64 d) ∧ w1.cell? ⟨w.heap.size, 6, none⟩ = some (.int .i64 e) ∧ w1.cell? ⟨2, 0, none⟩ = some (.int .i64 1) ∧ w1.cell? ⟨2, 1, none⟩ = some (.int .i64 6) ∧ w1.cell? ⟨3, 0, none⟩ = some (.int .i64 1) ∧ w1.cell? ⟨3, 1, none⟩ = some (.int .i64 4) ∧ Kp w w1 := ⟨k1.cell s0.1, k1.cell s0.2.1, k1.cell s0.2.2.1, k1.cell s0.2.2.2.1, k1.cell s0.2.2.2.2.1, k1.cell s0.2.2.2.2.2.1, k1.cell s0.2.2.2.2.2.2.1, k1.cell s0.2.2.2.2.2.2.2.1, k1.cell s0.2.2.2.2.2.2.2.2.1, k1.cell s0.2.2.2.2.2.2.2.2.2.1, k1.cell s0.2.2.2.2.2.2.2.2.2.2.1, s0.2.2.2.2.2.2.2.2.2.2.2.trans k1⟩
  have K1 : Kp W0 w1 := k1
  clear k1
  go_wp2_with fail
  go_ret
  exact ⟨rfl, s1.2.2.2.2.2.2.2.2.2.2.2⟩

set_option maxRecDepth 100000 in
set_option maxHeartbeats 2000000 in
theorem isRules_no2 (At Ak : Option Addr) (nt nk ct ck : Nat) (l : List Ter) (m : List Knd) (a b c d e : Int) (w : World) (hs : Spans w) (h : RulAt w At Ak nt nk l m) (h1 : spB 1 6 nt = true) (h2 : spB 1 4 nk = false) :
    Calls Tryd.prog 34 #[rv (.slice At nt ct) (.slice Ak nk ck) a b c d e] w fun e' w' => e' = .returned (.bool false) ∧ Kp w w' := by
  have s0 : (w.alloc (.cells #[.slice At nt ct, .slice Ak nk ck, .int .i64 a, .int .i64 b, .int .i64 c, .int .i64 d, .int .i64 e] 32)).cell? ⟨w.heap.size, 0, none⟩ = some (.slice At nt ct) ∧ (w.alloc (.cells #[.slice At nt ct, .slice Ak nk ck, .int .i64 a, .int .i64 b, .int .i64 c, .int .i64 d, .int .i64 e] 32)).cell? ⟨w.heap.size, 1, none⟩ = some (.slice Ak nk ck) ∧ (w.alloc (.cells #[.slice At nt ct, .slice Ak nk ck, .int .i64 a, .int .i64 b, .int .i64 c, .int .i64 d, .int .i64 e] 32)).cell? ⟨w.heap.size, 2, none⟩ = some (.int .i64 a) ∧ (w.alloc (.cells #[.slice At nt ct, .slice Ak nk ck, .int .i64 a, .int .i64 b, .int .i64 c, .int .i64 d, .int .i64 e] 32)).cell? ⟨w.heap.size, 3, none⟩ = some (.int .i64 b) ∧ (w.alloc (.cells #[.slice At nt ct, .slice Ak nk ck, .int .i64 a, .int .i64 b, .int .i64 c, .int .i64 d, .int .i64 e] 32)).cell? ⟨w.heap.size, 4, none⟩ = some (.int .i64 c) ∧ (w.alloc (.cells #[.slice At nt ct, .slice Ak nk ck, .int .i64 a, .int .i64 b, .int .i64 c, .int .i64 d, .int .i64 e] 32)).cell? ⟨w.heap.size, 5, none⟩ = some (.int .i64 d) ∧ (w.alloc (.cells #[.slice At nt ct, .slice Ak nk ck, .int .i64 a, .int .i64 b, .int .i64 c, .int .i64 d, .int .i64 e] 32)).cell? ⟨w.heap.size, 6, none⟩ = some (.int .i64 e) ∧ (w.alloc (.cells #[.slice At nt ct, .slice Ak nk ck, .int .i64 a, .int .i64 b, .int .i64 c, .int .i64 d, .int .i64 e] 32)).cell? ⟨2, 0, none⟩ = some (.int .i64 1) ∧ (w.alloc (.cells #[.slice At nt ct, .slice Ak nk ck, .int .i64 a, .int .i64 b, .int .i64 c, .int .i64 d, .int .i64 e] 32)).cell? ⟨2, 1, none⟩ = some (.int .i64 6) ∧ (w.alloc (.cells #[.slice At nt ct, .slice Ak nk ck, .int .i64 a, .int .i64 b, .int .i64 c, .int .i64 d, .int .i64 e] 32)).cell? ⟨3, 0, none⟩ = some (.int .i64 1) ∧ (w.alloc (.cells #[.slice At nt ct, .slice Ak nk ck, .int .i64 a, .int .i64 b, .int .i64 c, .int .i64 d, .int .i64 e] 32)).cell? ⟨3, 1, none⟩ = some (.int .i64 4) ∧ Kp w (w.alloc (.cells #[.slice At nt ct, .slice Ak nk ck, .int .i64 a, .int .i64 b, .int .i64 c, .int .i64 d, .int .i64 e] 32)) :=
    ⟨by simp [go_sem], by simp [go_sem], by simp [go_sem], by simp [go_sem], by simp [go_sem], by simp [go_sem], by simp [go_sem], ((Kp.refl w).alloc _).cell hs.terrains.1, ((Kp.refl w).alloc _).cell hs.terrains.2, ((Kp.refl w).alloc _).cell hs.kinds.1, ((Kp.refl w).alloc _).cell hs.kinds.2, (Kp.refl w).alloc _⟩
  have HS := Lib.hid hs
  have HL := Lib.hid h
  have hb1 := h.bt
  have hb2 := h.bk
  clear hs h
  go_enter Tryd.func34, Tryd.ntmps34
  go_wp2_with fail
  generalize w.alloc (.cells #[.slice At nt ct, .slice Ak nk ck, .int .i64 a, .int .i64 b, .int .i64 c, .int .i64 d, .int .i64 e] 32) = W0 at *
  refine (has_any _ _ _ _).mono ?_
  rintro e1 w1 ⟨rfl, k1⟩
  have s1 : w1.cell? ⟨w.heap.size, 0, none⟩ = some (.slice At nt ct) ∧ w1.cell? ⟨w.heap.size, 1, none⟩ = some (.slice Ak nk ck) ∧ w1.cell? ⟨w.heap.size, 2, none⟩ = some (.int .i64 a) ∧ w1.cell? ⟨w.heap.size, 3, none⟩ = some (.int .i64 b) ∧ w1.cell? ⟨w.heap.size, 4, none⟩ = some (.int .i64 c) ∧ w1.cell? ⟨w.heap.size, 5, none⟩ = some (.int .i64 d) ∧ w1.cell? ⟨w.heap.size, 6, none⟩ = some (.int .i64 e) ∧ w1.cell? ⟨2, 0, none⟩ = some (.int .i64 1) ∧ w1.cell? ⟨2, 1, none⟩ = some (.int .i64 6) ∧ w1.cell? ⟨3, 0, none⟩ = some (.int .i64 1) ∧ w1.cell? ⟨3, 1, none⟩ = some (.int .i64 4) ∧ Kp w w1 := ⟨k1.cell s0.1, k1.cell s0.2.1, k1.cell s0.2.2.1, k1.cell s0.2.2.2.1, k1.cell s0.2.2.2.2.1, k1.cell s0.2.2.2.2.2.1, k1.cell s0.2.2.2.2.2.2.1, k1.cell s0.2.2.2.2.2.2.2.1, k1.cell s0.2.2.2.2.2.2.2.2.1, k1.cell s0.2.2.2.2.2.2.2.2.2.1, k1.cell s0.2.2.2.2.2.2.2.2.2.2.1, s0.2.2.2.2.2.2.2.2.2.2.2.trans k1⟩
  have K1 : Kp W0 w1 := k1
  clear k1
  go_wp2_with fail
  refine (has_any _ _ _ _).mono ?_
  rintro e2 w2 ⟨rfl, k2⟩
  have s2 : w2.cell? ⟨w.heap.size, 0, none⟩ = some (.slice At nt ct) ∧ w2.cell? ⟨w.heap.size, 1, none⟩ = some (.slice Ak nk ck) ∧ w2.cell? ⟨w.heap.size, 2, none⟩ = some (.int .i64 a) ∧ w2.cell? ⟨w.heap.size, 3, none⟩ = some (.int .i64 b) ∧ w2.cell? ⟨w.heap.size, 4, none⟩ = some (.int .i64 c) ∧ w2.cell? ⟨w.heap.size, 5, none⟩ = some (.int .i64 d) ∧ w2.cell? ⟨w.heap.size, 6, none⟩ = some (.int .i64 e) ∧ w2.cell? ⟨2, 0, none⟩ = some (.int .i64 1) ∧ w2.cell? ⟨2, 1, none⟩ = some (.int .i64 6) ∧ w2.cell? ⟨3, 0, none⟩ = some (.int .i64 1) ∧ w2.cell? ⟨3, 1, none⟩ = some (.int .i64 4) ∧ Kp w w2 := ⟨k2.cell s1.1, k2.cell s1.2.1, k2.cell s1.2.2.1, k2.cell s1.2.2.2.1, k2.cell s1.2.2.2.2.1, k2.cell s1.2.2.2.2.2.1, k2.cell s1.2.2.2.2.2.2.1, k2.cell s1.2.2.2.2.2.2.2.1, k2.cell s1.2.2.2.2.2.2.2.2.1, k2.cell s1.2.2.2.2.2.2.2.2.2.1, k2.cell s1.2.2.2.2.2.2.2.2.2.2.1, s1.2.2.2.2.2.2.2.2.2.2.2.trans k2⟩
  have K2 : Kp W0 w2 := K1.trans k2
  clear s1 K1 k2
  go_wp2_with fail
  go_ret
  exact ⟨rfl, s2.2.2.2.2.2.2.2.2.2.2.2⟩

set_option maxRecDepth 100000 in
set_option maxHeartbeats 2000000 in
theorem isRules_no3 (At Ak : Option Addr) (nt nk ct ck : Nat) (l : List Ter) (m : List Knd) (a b c d e : Int) (w : World) (hs : Spans w) (h : RulAt w At Ak nt nk l m) (h1 : spB 1 6 nt = true) (h2 : spB 1 4 nk = true) (h3 : limB a b c d e = false) :
    Calls Tryd.prog 34 #[rv (.slice At nt ct) (.slice Ak nk ck) a b c d e] w fun e' w' => e' = .returned (.bool false) ∧ Kp w w' := by
  have s0 : (w.alloc (.cells #[.slice At nt ct, .slice Ak nk ck, .int .i64 a, .int .i64 b, .int .i64 c, .int .i64 d, .int .i64 e] 32)).cell? ⟨w.heap.size, 0, none⟩ = some (.slice At nt ct) ∧ (w.alloc (.cells #[.slice At nt ct, .slice Ak nk ck, .int .i64 a, .int .i64 b, .int .i64 c, .int .i64 d, .int .i64 e] 32)).cell? ⟨w.heap.size, 1, none⟩ = some (.slice Ak nk ck) ∧ (w.alloc (.cells #[.slice At nt ct, .slice Ak nk ck, .int .i64 a, .int .i64 b, .int .i64 c, .int .i64 d, .int .i64 e] 32)).cell? ⟨w.heap.size, 2, none⟩ = some (.int .i64 a) ∧ (w.alloc (.cells #[.slice At nt ct, .slice Ak nk ck, .int .i64 a, .int .i64 b, .int .i64 c, .int .i64 d, .int .i64 e] 32)).cell? ⟨w.heap.size, 3, none⟩ = some (.int .i64 b) ∧ (w.alloc (.cells #[.slice At nt ct, .slice Ak nk ck, .int .i64 a, .int .i64 b, .int .i64 c, .int .i64 d, .int .i64 e] 32)).cell? ⟨w.heap.size, 4, none⟩ = some (.int .i64 c) ∧ (w.alloc (.cells #[.slice At nt ct, .slice Ak nk ck, .int .i64 a, .int .i64 b, .int .i64 c, .int .i64 d, .int .i64 e] 32)).cell? ⟨w.heap.size, 5, none⟩ = some (.int .i64 d) ∧ (w.alloc (.cells #[.slice At nt ct, .slice Ak nk ck, .int .i64 a, .int .i64 b, .int .i64 c, .int .i64 d, .int .i64 e] 32)).cell? ⟨w.heap.size, 6, none⟩ = some (.int .i64 e) ∧ (w.alloc (.cells #[.slice At nt ct, .slice Ak nk ck, .int .i64 a, .int .i64 b, .int .i64 c, .int .i64 d, .int .i64 e] 32)).cell? ⟨2, 0, none⟩ = some (.int .i64 1) ∧ (w.alloc (.cells #[.slice At nt ct, .slice Ak nk ck, .int .i64 a, .int .i64 b, .int .i64 c, .int .i64 d, .int .i64 e] 32)).cell? ⟨2, 1, none⟩ = some (.int .i64 6) ∧ (w.alloc (.cells #[.slice At nt ct, .slice Ak nk ck, .int .i64 a, .int .i64 b, .int .i64 c, .int .i64 d, .int .i64 e] 32)).cell? ⟨3, 0, none⟩ = some (.int .i64 1) ∧ (w.alloc (.cells #[.slice At nt ct, .slice Ak nk ck, .int .i64 a, .int .i64 b, .int .i64 c, .int .i64 d, .int .i64 e] 32)).cell? ⟨3, 1, none⟩ = some (.int .i64 4) ∧ Kp w (w.alloc (.cells #[.slice At nt ct, .slice Ak nk ck, .int .i64 a, .int .i64 b, .int .i64 c, .int .i64 d, .int .i64 e] 32)) :=
    ⟨by simp [go_sem], by simp [go_sem], by simp [go_sem], by simp [go_sem], by simp [go_sem], by simp [go_sem], by simp [go_sem], ((Kp.refl w).alloc _).cell hs.terrains.1, ((Kp.refl w).alloc _).cell hs.terrains.2, ((Kp.refl w).alloc _).cell hs.kinds.1, ((Kp.refl w).alloc _).cell hs.kinds.2, (Kp.refl w).alloc _⟩
  have HS := Lib.hid hs
  have HL := Lib.hid h
  have hb1 := h.bt
  have hb2 := h.bk
  clear hs h
  go_enter Tryd.func34, Tryd.ntmps34
  go_wp2_with fail
  generalize w.alloc (.cells #[.slice At nt ct, .slice Ak nk ck, .int .i64 a, .int .i64 b, .int .i64 c, .int .i64 d, .int .i64 e] 32) = W0 at *
  refine (has_any _ _ _ _).mono ?_
  rintro e1 w1 ⟨rfl, k1⟩
  have s1 : w1.cell? ⟨w.heap.size, 0, none⟩ = some (.slice At nt ct) ∧ w1.cell? ⟨w.heap.size, 1, none⟩ = some (.slice Ak nk ck) ∧ w1.cell? ⟨w.heap.size, 2, none⟩ = some (.int .i64 a) ∧ w1.cell? ⟨w.heap.size, 3, none⟩ = some (.int .i64 b) ∧ w1.cell? ⟨w.heap.size, 4, none⟩ = some (.int .i64 c) ∧ w1.cell? ⟨w.heap.size, 5, none⟩ = some (.int .i64 d) ∧ w1.cell? ⟨w.heap.size, 6, none⟩ = some (.int .i64 e) ∧ w1.cell? ⟨2, 0, none⟩ = some (.int .i64 1) ∧ w1.cell? ⟨2, 1, none⟩ = some (.int .i64 6) ∧ w1.cell? ⟨3, 0, none⟩ = some (.int .i64 1) ∧ w1.cell? ⟨3, 1, none⟩ = some (.int .i64 4) ∧ Kp w w1 := ⟨k1.cell s0.1, k1.cell s0.2.1, k1.cell s0.2.2.1, k1.cell s0.2.2.2.1, k1.cell s0.2.2.2.2.1, k1.cell s0.2.2.2.2.2.1, k1.cell s0.2.2.2.2.2.2.1, k1.cell s0.2.2.2.2.2.2.2.1, k1.cell s0.2.2.2.2.2.2.2.2.1, k1.cell s0.2.2.2.2.2.2.2.2.2.1, k1.cell s0.2.2.2.2.2.2.2.2.2.2.1, s0.2.2.2.2.2.2.2.2.2.2.2.trans k1⟩
  have K1 : Kp W0 w1 := k1
  clear k1
  go_wp2_with fail
  refine (has_any _ _ _ _).mono ?_
  rintro e2 w2 ⟨rfl, k2⟩
  have s2 : w2.cell? ⟨w.heap.size, 0, none⟩ = some (.slice At nt ct) ∧ w2.cell? ⟨w.heap.size, 1, none⟩ = some (.slice Ak nk ck) ∧ w2.cell? ⟨w.heap.size, 2, none⟩ = some (.int .i64 a) ∧ w2.cell? ⟨w.heap.size, 3, none⟩ = some (.int .i64 b) ∧ w2.cell? ⟨w.heap.size, 4, none⟩ = some (.int .i64 c) ∧ w2.cell? ⟨w.heap.size, 5, none⟩ = some (.int .i64 d) ∧ w2.cell? ⟨w.heap.size, 6, none⟩ = some (.int .i64 e) ∧ w2.cell? ⟨2, 0, none⟩ = some (.int .i64 1) ∧ w2.cell? ⟨2, 1, none⟩ = some (.int .i64 6) ∧ w2.cell? ⟨3, 0, none⟩ = some (.int .i64 1) ∧ w2.cell? ⟨3, 1, none⟩ = some (.int .i64 4) ∧ Kp w w2 := ⟨k2.cell s1.1, k2.cell s1.2.1, k2.cell s1.2.2.1, k2.cell s1.2.2.2.1, k2.cell s1.2.2.2.2.1, k2.cell s1.2.2.2.2.2.1, k2.cell s1.2.2.2.2.2.2.1, k2.cell s1.2.2.2.2.2.2.2.1, k2.cell s1.2.2.2.2.2.2.2.2.1, k2.cell s1.2.2.2.2.2.2.2.2.2.1, k2.cell s1.2.2.2.2.2.2.2.2.2.2.1, s1.2.2.2.2.2.2.2.2.2.2.2.trans k2⟩
  have K2 : Kp W0 w2 := K1.trans k2
  clear s1 K1 k2
  go_wp2_with fail
  refine (hasLimits_any _ _ _ _ _ _ _ _ (HS.out.keep s2.2.2.2.2.2.2.2.2.2.2.2)).mono ?_
  rintro e3 w3 ⟨rfl, k3⟩
  have s3 : w3.cell? ⟨w.heap.size, 0, none⟩ = some (.slice At nt ct) ∧ w3.cell? ⟨w.heap.size, 1, none⟩ = some (.slice Ak nk ck) ∧ w3.cell? ⟨w.heap.size, 2, none⟩ = some (.int .i64 a) ∧ w3.cell? ⟨w.heap.size, 3, none⟩ = some (.int .i64 b) ∧ w3.cell? ⟨w.heap.size, 4, none⟩ = some (.int .i64 c) ∧ w3.cell? ⟨w.heap.size, 5, none⟩ = some (.int .i64 d) ∧ w3.cell? ⟨w.heap.size, 6, none⟩ = some (.int .i64 e) ∧ w3.cell? ⟨2, 0, none⟩ = some (.int .i64 1) ∧ w3.cell? ⟨2, 1, none⟩ = some (.int .i64 6) ∧ w3.cell? ⟨3, 0, none⟩ = some (.int .i64 1) ∧ w3.cell? ⟨3, 1, none⟩ = some (.int .i64 4) ∧ Kp w w3 := ⟨k3.cell s2.1, k3.cell s2.2.1, k3.cell s2.2.2.1, k3.cell s2.2.2.2.1, k3.cell s2.2.2.2.2.1, k3.cell s2.2.2.2.2.2.1, k3.cell s2.2.2.2.2.2.2.1, k3.cell s2.2.2.2.2.2.2.2.1, k3.cell s2.2.2.2.2.2.2.2.2.1, k3.cell s2.2.2.2.2.2.2.2.2.2.1, k3.cell s2.2.2.2.2.2.2.2.2.2.2.1, s2.2.2.2.2.2.2.2.2.2.2.2.trans k3⟩
  have K3 : Kp W0 w3 := K2.trans k3
  clear s2 K2 k3
  go_wp2_with fail
  go_ret
  exact ⟨rfl, s3.2.2.2.2.2.2.2.2.2.2.2⟩

set_option maxRecDepth 100000 in
set_option maxHeartbeats 4000000 in
theorem isRules_yes (At Ak : Option Addr) (nt nk ct ck : Nat) (l : List Ter) (m : List Knd) (a b c d e : Int) (w : World) (hs : Spans w) (h : RulAt w At Ak nt nk l m) (h1 : spB 1 6 nt = true) (h2 : spB 1 4 nk = true) (h3 : limB a b c d e = true) :
    Calls Tryd.prog 34 #[rv (.slice At nt ct) (.slice Ak nk ck) a b c d e] w fun e' w' => e' = .returned (.bool (l.all (numT nk) && (m.all numK && (namesOk (tNames l) && namesOk (kNames m))))) ∧ Kp w w' := by
  have n6 : nt ≤ 1000 ∧ nk ≤ 1000 := by
    simp only [spB, Bool.and_eq_true, decide_eq_true_eq] at h1 h2
    omega
  obtain ⟨n6, n4⟩ := n6
  have s0 : (w.alloc (.cells #[.slice At nt ct, .slice Ak nk ck, .int .i64 a, .int .i64 b, .int .i64 c, .int .i64 d, .int .i64 e] 32)).cell? ⟨w.heap.size, 0, none⟩ = some (.slice At nt ct) ∧ (w.alloc (.cells #[.slice At nt ct, .slice Ak nk ck, .int .i64 a, .int .i64 b, .int .i64 c, .int .i64 d, .int .i64 e] 32)).cell? ⟨w.heap.size, 1, none⟩ = some (.slice Ak nk ck) ∧ (w.alloc (.cells #[.slice At nt ct, .slice Ak nk ck, .int .i64 a, .int .i64 b, .int .i64 c, .int .i64 d, .int .i64 e] 32)).cell? ⟨w.heap.size, 2, none⟩ = some (.int .i64 a) ∧ (w.alloc (.cells #[.slice At nt ct, .slice Ak nk ck, .int .i64 a, .int .i64 b, .int .i64 c, .int .i64 d, .int .i64 e] 32)).cell? ⟨w.heap.size, 3, none⟩ = some (.int .i64 b) ∧ (w.alloc (.cells #[.slice At nt ct, .slice Ak nk ck, .int .i64 a, .int .i64 b, .int .i64 c, .int .i64 d, .int .i64 e] 32)).cell? ⟨w.heap.size, 4, none⟩ = some (.int .i64 c) ∧ (w.alloc (.cells #[.slice At nt ct, .slice Ak nk ck, .int .i64 a, .int .i64 b, .int .i64 c, .int .i64 d, .int .i64 e] 32)).cell? ⟨w.heap.size, 5, none⟩ = some (.int .i64 d) ∧ (w.alloc (.cells #[.slice At nt ct, .slice Ak nk ck, .int .i64 a, .int .i64 b, .int .i64 c, .int .i64 d, .int .i64 e] 32)).cell? ⟨w.heap.size, 6, none⟩ = some (.int .i64 e) ∧ (w.alloc (.cells #[.slice At nt ct, .slice Ak nk ck, .int .i64 a, .int .i64 b, .int .i64 c, .int .i64 d, .int .i64 e] 32)).cell? ⟨2, 0, none⟩ = some (.int .i64 1) ∧ (w.alloc (.cells #[.slice At nt ct, .slice Ak nk ck, .int .i64 a, .int .i64 b, .int .i64 c, .int .i64 d, .int .i64 e] 32)).cell? ⟨2, 1, none⟩ = some (.int .i64 6) ∧ (w.alloc (.cells #[.slice At nt ct, .slice Ak nk ck, .int .i64 a, .int .i64 b, .int .i64 c, .int .i64 d, .int .i64 e] 32)).cell? ⟨3, 0, none⟩ = some (.int .i64 1) ∧ (w.alloc (.cells #[.slice At nt ct, .slice Ak nk ck, .int .i64 a, .int .i64 b, .int .i64 c, .int .i64 d, .int .i64 e] 32)).cell? ⟨3, 1, none⟩ = some (.int .i64 4) ∧ Kp w (w.alloc (.cells #[.slice At nt ct, .slice Ak nk ck, .int .i64 a, .int .i64 b, .int .i64 c, .int .i64 d, .int .i64 e] 32)) :=
    ⟨by simp [go_sem], by simp [go_sem], by simp [go_sem], by simp [go_sem], by simp [go_sem], by simp [go_sem], by simp [go_sem], ((Kp.refl w).alloc _).cell hs.terrains.1, ((Kp.refl w).alloc _).cell hs.terrains.2, ((Kp.refl w).alloc _).cell hs.kinds.1, ((Kp.refl w).alloc _).cell hs.kinds.2, (Kp.refl w).alloc _⟩
  have HS := Lib.hid hs
  have HL := Lib.hid h
  have hb1 := h.bt
  have hb2 := h.bk
  clear hs h
  obtain ⟨R, hR⟩ : ∃ R, R = l.all (numT nk) := ⟨_, rfl⟩
  obtain ⟨Q, hQ⟩ : ∃ Q, Q = m.all numK := ⟨_, rfl⟩
  obtain ⟨B1, hB1⟩ : ∃ B, B = namesOk (tNames l) := ⟨_, rfl⟩
  obtain ⟨B2, hB2⟩ : ∃ B, B = namesOk (kNames m) := ⟨_, rfl⟩
  rw [← hR, ← hQ, ← hB1, ← hB2]
  have HR := Lib.hid hR
  have HQ := Lib.hid hQ
  have HB1 := Lib.hid hB1
  have HB2 := Lib.hid hB2
  have HNt := Lib.hid HL.out.rt.1
  have HNk := Lib.hid HL.out.rk.1
  have HAt := Lib.hid HL.out.rt.2
  have HAk := Lib.hid HL.out.rk.2
  clear hR hQ hB1 hB2
  go_enter Tryd.func34, Tryd.ntmps34
  go_wp2_with fail
  generalize w.alloc (.cells #[.slice At nt ct, .slice Ak nk ck, .int .i64 a, .int .i64 b, .int .i64 c, .int .i64 d, .int .i64 e] 32) = W0 at *
  refine (has_any _ _ _ _).mono ?_
  rintro e1 w1 ⟨rfl, k1⟩
  have s1 : w1.cell? ⟨w.heap.size, 0, none⟩ = some (.slice At nt ct) ∧ w1.cell? ⟨w.heap.size, 1, none⟩ = some (.slice Ak nk ck) ∧ w1.cell? ⟨w.heap.size, 2, none⟩ = some (.int .i64 a) ∧ w1.cell? ⟨w.heap.size, 3, none⟩ = some (.int .i64 b) ∧ w1.cell? ⟨w.heap.size, 4, none⟩ = some (.int .i64 c) ∧ w1.cell? ⟨w.heap.size, 5, none⟩ = some (.int .i64 d) ∧ w1.cell? ⟨w.heap.size, 6, none⟩ = some (.int .i64 e) ∧ w1.cell? ⟨2, 0, none⟩ = some (.int .i64 1) ∧ w1.cell? ⟨2, 1, none⟩ = some (.int .i64 6) ∧ w1.cell? ⟨3, 0, none⟩ = some (.int .i64 1) ∧ w1.cell? ⟨3, 1, none⟩ = some (.int .i64 4) ∧ Kp w w1 := ⟨k1.cell s0.1, k1.cell s0.2.1, k1.cell s0.2.2.1, k1.cell s0.2.2.2.1, k1.cell s0.2.2.2.2.1, k1.cell s0.2.2.2.2.2.1, k1.cell s0.2.2.2.2.2.2.1, k1.cell s0.2.2.2.2.2.2.2.1, k1.cell s0.2.2.2.2.2.2.2.2.1, k1.cell s0.2.2.2.2.2.2.2.2.2.1, k1.cell s0.2.2.2.2.2.2.2.2.2.2.1, s0.2.2.2.2.2.2.2.2.2.2.2.trans k1⟩
  have K1 : Kp W0 w1 := k1
  clear k1
  go_wp2_with fail
  refine (has_any _ _ _ _).mono ?_
  rintro e2 w2 ⟨rfl, k2⟩
  have s2 : w2.cell? ⟨w.heap.size, 0, none⟩ = some (.slice At nt ct) ∧ w2.cell? ⟨w.heap.size, 1, none⟩ = some (.slice Ak nk ck) ∧ w2.cell? ⟨w.heap.size, 2, none⟩ = some (.int .i64 a) ∧ w2.cell? ⟨w.heap.size, 3, none⟩ = some (.int .i64 b) ∧ w2.cell? ⟨w.heap.size, 4, none⟩ = some (.int .i64 c) ∧ w2.cell? ⟨w.heap.size, 5, none⟩ = some (.int .i64 d) ∧ w2.cell? ⟨w.heap.size, 6, none⟩ = some (.int .i64 e) ∧ w2.cell? ⟨2, 0, none⟩ = some (.int .i64 1) ∧ w2.cell? ⟨2, 1, none⟩ = some (.int .i64 6) ∧ w2.cell? ⟨3, 0, none⟩ = some (.int .i64 1) ∧ w2.cell? ⟨3, 1, none⟩ = some (.int .i64 4) ∧ Kp w w2 := ⟨k2.cell s1.1, k2.cell s1.2.1, k2.cell s1.2.2.1, k2.cell s1.2.2.2.1, k2.cell s1.2.2.2.2.1, k2.cell s1.2.2.2.2.2.1, k2.cell s1.2.2.2.2.2.2.1, k2.cell s1.2.2.2.2.2.2.2.1, k2.cell s1.2.2.2.2.2.2.2.2.1, k2.cell s1.2.2.2.2.2.2.2.2.2.1, k2.cell s1.2.2.2.2.2.2.2.2.2.2.1, s1.2.2.2.2.2.2.2.2.2.2.2.trans k2⟩
  have K2 : Kp W0 w2 := K1.trans k2
  clear s1 K1 k2
  go_wp2_with fail
  refine (hasLimits_any _ _ _ _ _ _ _ _ (HS.out.keep s2.2.2.2.2.2.2.2.2.2.2.2)).mono ?_
  rintro e3 w3 ⟨rfl, k3⟩
  have s3 : w3.cell? ⟨w.heap.size, 0, none⟩ = some (.slice At nt ct) ∧ w3.cell? ⟨w.heap.size, 1, none⟩ = some (.slice Ak nk ck) ∧ w3.cell? ⟨w.heap.size, 2, none⟩ = some (.int .i64 a) ∧ w3.cell? ⟨w.heap.size, 3, none⟩ = some (.int .i64 b) ∧ w3.cell? ⟨w.heap.size, 4, none⟩ = some (.int .i64 c) ∧ w3.cell? ⟨w.heap.size, 5, none⟩ = some (.int .i64 d) ∧ w3.cell? ⟨w.heap.size, 6, none⟩ = some (.int .i64 e) ∧ w3.cell? ⟨2, 0, none⟩ = some (.int .i64 1) ∧ w3.cell? ⟨2, 1, none⟩ = some (.int .i64 6) ∧ w3.cell? ⟨3, 0, none⟩ = some (.int .i64 1) ∧ w3.cell? ⟨3, 1, none⟩ = some (.int .i64 4) ∧ Kp w w3 := ⟨k3.cell s2.1, k3.cell s2.2.1, k3.cell s2.2.2.1, k3.cell s2.2.2.2.1, k3.cell s2.2.2.2.2.1, k3.cell s2.2.2.2.2.2.1, k3.cell s2.2.2.2.2.2.2.1, k3.cell s2.2.2.2.2.2.2.2.1, k3.cell s2.2.2.2.2.2.2.2.2.1, k3.cell s2.2.2.2.2.2.2.2.2.2.1, k3.cell s2.2.2.2.2.2.2.2.2.2.2.1, s2.2.2.2.2.2.2.2.2.2.2.2.trans k3⟩
  have K3 : Kp W0 w3 := K2.trans k3
  clear s2 K2 k3
  go_wp2_with fail
  clear s0
  go_loopw [4, 29] (fun _ i wr => ∃ k : Nat, k ≤ nt ∧ i = .int .i64 k ∧ Hid ((l.drop k).all (numT nk) = R) ∧ Kp w3 wr) (fun _ i _ => nt - (intOf i).toNat)
  case atStart => exact ⟨0, by omega, rfl, Lib.hid HR.out.symm, Kp.refl _⟩
  case round =>
    obtain ⟨k, hk, rfl, hE, kr⟩ := hrel
    have K0 : Kp w wr := s3.2.2.2.2.2.2.2.2.2.2.2.trans kr
    by_cases hlt : k < nt
    · have hlt' : (k : Int) < nt := by omega
      obtain ⟨g, off, rfl, hc⟩ := HAt.out (by omega)
      obtain ⟨x, hx⟩ : ∃ x, l[k]? = some x := ⟨l[k]'(by have := HNt.out; omega), List.getElem?_eq_getElem _⟩
      obtain ⟨Ac, cc, ⟨a0, a1, a2, a3, a4⟩, hri⟩ := (hc k x hx).keep K0
      have HX := Lib.hid (dropA hx)
      have hcb := (HL.out.bc x (List.mem_of_getElem? hx)).1
      obtain ⟨nm, cs, sh, hg, bl⟩ := x
      simp only at a0 a1 a2 a3 a4 hri hcb
      have c1 := kr.cell s3.2.1
      have hz := cell_lt c1
      generalize hnc : cs.length = nc at a1 hri hcb
      have HNC2 := Lib.hid hnc
      clear hc hx hnc
      have KA : Kp wr (wr.alloc (.cells #[.string nm, .slice Ac nc cc, .int .i64 sh, .int .i64 hg, .bool bl] 70)) := (Kp.refl wr).alloc _
      have HRI := Lib.hid (hri.keep KA)
      clear hri
      cases hok : numT nk ⟨nm, cs, sh, hg, bl⟩
      · have HE2 : Hid (R = false) := Lib.hid (by rw [← hE.out, HX.out]; exact allA_no hok)
        go_wp2_with fail
        refine (tNumbers_any _ _ _ _ _ _ _ cs _ _ (HS.out.keep (K0.trans KA)) HNC2.out HRI.out hcb (by omega)).mono ?_
        rintro e4 w4 ⟨rfl, k4⟩
        rw [hok]
        go_wp2_with fail
        go_ret
        exact ⟨ret_bool (by rw [HE2.out]; rfl), (K0.trans KA).trans k4⟩
      · have HE2 : Hid ((l.drop (k + 1)).all (numT nk) = R) := Lib.hid (by rw [← hE.out, HX.out]; exact (allA_go hok).symm)
        go_wp2_with fail
        refine (tNumbers_any _ _ _ _ _ _ _ cs _ _ (HS.out.keep (K0.trans KA)) HNC2.out HRI.out hcb (by omega)).mono ?_
        rintro e4 w4 ⟨rfl, k4⟩
        rw [hok]
        go_wp2_with fail
        go_roundw
        case rel => exact ⟨k + 1, by omega, by go_num, HE2, (kr.trans KA).trans k4⟩
        case measure => simp [intOf]; omega
    · obtain rfl : k = nt := by omega
      have HR1 : Hid (R = true) := Lib.hid (by rw [← hE.out, List.drop_of_length_le (by rw [HNt.out]; omega)]; rfl)
      have c1 := kr.cell s3.2.1
      go_wp2_with fail
      go_loopw [6, 43] (fun _ i wx => ∃ j : Nat, j ≤ nk ∧ i = .int .i64 j ∧ Hid ((m.drop j).all numK = Q) ∧ Kp w3 wx) (fun _ i _ => nk - (intOf i).toNat)
      case atStart => exact ⟨0, by omega, rfl, Lib.hid HQ.out.symm, kr⟩
      case round =>
        clear c1 K0 kr hE
        obtain ⟨j, hj, rfl, hE, kr⟩ := hrel
        have K0 : Kp w wr := s3.2.2.2.2.2.2.2.2.2.2.2.trans kr
        by_cases hlt : j < nk
        · have hlt' : (j : Int) < nk := by omega
          obtain ⟨g, off, rfl, hc⟩ := HAk.out (by omega)
          obtain ⟨x, hx⟩ : ∃ x, m[j]? = some x := ⟨m[j]'(by have := HNk.out; omega), List.getElem?_eq_getElem _⟩
          obtain ⟨a0, a1, a2, a3, a4, a5⟩ := (hc j x hx).keep K0
          have HX := Lib.hid (dropA hx)
          obtain ⟨nm, ks, km, kt, kz, kw⟩ := x
          simp only at a0 a1 a2 a3 a4 a5
          clear hc hx
          have KA : Kp wr (wr.alloc (.cells #[.string nm, .int .i64 ks, .int .i64 km, .int .i64 kt, .bool kz, .int .i64 kw] 62)) := (Kp.refl wr).alloc _
          cases hok : numK ⟨nm, ks, km, kt, kz, kw⟩
          · have HE2 : Hid (Q = false) := Lib.hid (by rw [← hE.out, HX.out]; exact allA_no hok)
            go_wp2_with fail
            refine (kNumbers_any _ _ _ _ _ _ _ (HS.out.keep (K0.trans KA))).mono ?_
            rintro e4 w4 ⟨rfl, k4⟩
            rw [hok]
            go_wp2_with fail
            go_ret
            exact ⟨ret_bool (by rw [HR1.out, HE2.out]; rfl), (K0.trans KA).trans k4⟩
          · have HE2 : Hid ((m.drop (j + 1)).all numK = Q) := Lib.hid (by rw [← hE.out, HX.out]; exact (allA_go hok).symm)
            go_wp2_with fail
            refine (kNumbers_any _ _ _ _ _ _ _ (HS.out.keep (K0.trans KA))).mono ?_
            rintro e4 w4 ⟨rfl, k4⟩
            rw [hok]
            go_wp2_with fail
            go_roundw
            case rel => exact ⟨j + 1, by omega, by go_num, HE2, (kr.trans KA).trans k4⟩
            case measure => simp [intOf]; omega
        · obtain rfl : j = nk := by omega
          have HQ1 : Hid (Q = true) := Lib.hid (by rw [← hE.out, List.drop_of_length_le (by rw [HNk.out]; omega)]; rfl)
          have b0 := kr.cell s3.1
          have b1 := kr.cell s3.2.1
          have b2 := kr.cell s3.2.2.1
          have b3 := kr.cell s3.2.2.2.1
          have b4 := kr.cell s3.2.2.2.2.1
          have b5 := kr.cell s3.2.2.2.2.2.1
          have b6 := kr.cell s3.2.2.2.2.2.2.1
          cases hn1 : B1
          · have HZ : Hid (namesOk (tNames l) = false) := Lib.hid (by rw [← HB1.out, hn1])
            go_wp2_with fail
            refine (terrainNames_any _ _ _ l _ _ _ _ _ _ _ (HL.out.keep K0).rt n6).mono ?_
            rintro e5 w5 ⟨An, cn, rfl, hrs, hnc, hcc, k5⟩
            go_wp2_with fail
            refine (areNames_any _ _ _ (tNames l) _ (by have := HNt.out; simpa [tNames] using this) hrs hb1 hnc hcc).mono ?_
            rintro e6 w6 ⟨rfl, rfl⟩
            rw [HZ.out]
            go_wp2_with fail
            go_ret
            exact ⟨ret_bool (by rw [HR1.out, HQ1.out, hn1]; rfl), K0.trans k5⟩
          · have HZ : Hid (namesOk (tNames l) = true) := Lib.hid (by rw [← HB1.out, hn1])
            go_wp2_with fail
            refine (terrainNames_any _ _ _ l _ _ _ _ _ _ _ (HL.out.keep K0).rt n6).mono ?_
            rintro e5 w5 ⟨An, cn, rfl, hrs, hnc, hcc, k5⟩
            have HRS := Lib.hid hrs
            have d0 := k5.cell b0
            have d1 := k5.cell b1
            have d2 := k5.cell b2
            have d3 := k5.cell b3
            have d4 := k5.cell b4
            have d5 := k5.cell b5
            have d6 := k5.cell b6
            clear hrs b0 b1 b2 b3 b4 b5 b6
            go_wp2_with fail
            refine (areNames_any _ _ _ (tNames l) _ (by have := HNt.out; simpa [tNames] using this) HRS.out hb1 hnc hcc).mono ?_
            rintro e6 w6 ⟨rfl, rfl⟩
            rw [HZ.out]
            go_wp2_with fail
            refine (kindNames_any _ _ _ m _ _ _ _ _ _ _ (HL.out.keep (K0.trans k5)).rk n4).mono ?_
            rintro e7 w7 ⟨Am, cm, rfl, hrs2, hnc2, hcc2, k7⟩
            have HRS2 := Lib.hid hrs2
            clear hrs2
            go_wp2_with fail
            refine (areNames_any _ _ _ (kNames m) _ (by have := HNk.out; simpa [kNames] using this) HRS2.out hb2 hnc2 hcc2).mono ?_
            rintro e8 w8 ⟨rfl, rfl⟩
            rw [← HB2.out]
            go_wp2_with fail
            go_ret
            exact ⟨ret_bool (by rw [HR1.out, HQ1.out, hn1]; rfl), (K0.trans k5).trans k7⟩

theorem isRules_any (At Ak : Option Addr) (nt nk ct ck : Nat) (l : List Ter) (m : List Knd) (a b c d e : Int) (w : World) (hs : Spans w) (h : RulAt w At Ak nt nk l m) :
    Calls Tryd.prog 34 #[rv (.slice At nt ct) (.slice Ak nk ck) a b c d e] w fun e' w' => e' = .returned (.bool (rulOk ⟨l, m, a, b, c, d, e⟩)) ∧ Kp w w' := by
  unfold rulOk
  simp only [h.rt.1, h.rk.1]
  cases h1 : spB 1 6 nt
  · exact isRules_no1 At Ak nt nk ct ck l m a b c d e w hs h h1
  · cases h2 : spB 1 4 nk
    · exact isRules_no2 At Ak nt nk ct ck l m a b c d e w hs h h1 h2
    · cases h3 : limB a b c d e
      · exact isRules_no3 At Ak nt nk ct ck l m a b c d e w hs h h1 h2 h3
      · exact isRules_yes At Ak nt nk ct ck l m a b c d e w hs h h1 h2 h3

end Go.Proofs.YtpdcmpojjchobaaDoor

/-
  Maps as plain numbers and lists: indices, neighbours, edges, valid maps. No program is looked into.
-/
namespace Go.Proofs.YtpdcmpojjchobaaDoor
open Go.RowKit

def sideB (n : Int) : Bool := decide (1 ≤ n) && decide (n ≤ 10)
def terrB (n : Int) : Bool := decide (0 ≤ n) && decide (n ≤ 5)
def dirB (d : Int) : Bool := decide (0 ≤ d) && decide (d ≤ 5)
def onI (W H i : Int) : Bool := decide (0 ≤ i) && decide (i < W * H)
def inM (W H q r : Int) : Bool := (decide (0 ≤ q) && decide (q < W)) && (decide (0 ≤ r) && decide (r < H))
def idxM (W q r : Int) : Int := r * W + q
def nbQ (W i d : Int) : Int := i % W + dirQ d
def nbR (W i d : Int) : Int := i / W + dirR d
def nbM (W H i d : Int) : Bool := inM W H (nbQ W i d) (nbR W i d)
def nbB (W H i d : Int) : Bool := onI W H i && (dirB d && nbM W H i d)
def nbI (W i d : Int) : Int := idxM W (nbQ W i d) (nbR W i d)
def edgI (W i d : Int) : Int := if d < 3 then 3 * i + d else 3 * nbI W i d + d - 3
def edgeB (W H e : Int) : Bool := nbB W H (e.tdiv 3) (e.tmod 3)
def riseFrom : Int → List Int → Bool
  | _, [] => true
  | p, x :: l => decide (p < x) && riseFrom x l
def edgesFrom (W H : Int) : Int → List Int → Bool
  | _, [] => true
  | p, x :: l => edgeB W H x && (decide (p < x) && edgesFrom W H x l)
def edgesOk (W H : Int) (l : List Int) : Bool := edgesFrom W H (-1) l
def mapOk (W H : Int) (lt lr ld : List Int) : Bool :=
  sideB W && (sideB H && (decide ((lt.length : Int) = W * H) && (lt.all terrB && (edgesOk W H lr && edgesOk W H ld))))

theorem sideB_true {n : Int} (h : sideB n = true) : 1 ≤ n ∧ n ≤ 10 := by simpa [sideB] using h
theorem onI_true {W H i : Int} (h : onI W H i = true) : 0 ≤ i ∧ i < W * H := by simpa [onI] using h
theorem onI_mk {W H i : Int} (h : 0 ≤ i) (h' : i < W * H) : onI W H i = true := by simp [onI, h, h']
theorem dirB_true {d : Int} (h : dirB d = true) : 0 ≤ d ∧ d ≤ 5 := by simpa [dirB] using h
theorem dirB_mk {d : Int} (h : 0 ≤ d) (h' : d ≤ 5) : dirB d = true := by simp [dirB, h, h']
theorem inM_true {W H q r : Int} (h : inM W H q r = true) : 0 ≤ q ∧ q < W ∧ 0 ≤ r ∧ r < H := by
  simp only [inM, Bool.and_eq_true, decide_eq_true_eq] at h
  exact ⟨h.1.1, h.1.2, h.2.1, h.2.2⟩
theorem inM_mk {W H q r : Int} (a : 0 ≤ q) (b : q < W) (c : 0 ≤ r) (d : r < H) : inM W H q r = true := by simp [inM, a, b, c, d]

theorem area_bd {W H : Int} (a : 1 ≤ W) (b : W ≤ 10) (c : 1 ≤ H) (d : H ≤ 10) : 1 ≤ W * H ∧ W * H ≤ 100 := by
  have h1 : 0 ≤ (W - 1) * (H - 1) := Int.mul_nonneg (by omega) (by omega)
  have h2 : 0 ≤ (10 - W) * (10 - H) := Int.mul_nonneg (by omega) (by omega)
  have h3 : 0 ≤ (10 - W) * (H - 1) := Int.mul_nonneg (by omega) (by omega)
  simp only [Int.sub_mul, Int.mul_sub] at h1 h2 h3
  omega
theorem mul_bd {W r : Int} (a : 1 ≤ W) (b : W ≤ 10) (c : -20 ≤ r) (d : r ≤ 200) : -200 ≤ r * W ∧ r * W ≤ 2000 := by
  have h1 : 0 ≤ (r + 20) * W := Int.mul_nonneg (by omega) (by omega)
  have h2 : 0 ≤ (200 - r) * W := Int.mul_nonneg (by omega) (by omega)
  simp only [Int.sub_mul, Int.add_mul] at h1 h2
  omega
theorem hex_bd {W H i : Int} (a : 1 ≤ W) (b : W ≤ 10) (h0 : 0 ≤ i) (h : i < W * H) : 0 ≤ i % W ∧ i % W < W ∧ 0 ≤ i / W ∧ i / W < H := by
  refine ⟨Int.emod_nonneg _ (by omega), Int.emod_lt_of_pos _ (by omega), Int.ediv_nonneg h0 (by omega), ?_⟩
  exact Int.ediv_lt_of_lt_mul (by omega) (by rw [Int.mul_comm]; exact h)
theorem idx_bd {W H q r : Int} (h : inM W H q r = true) : 0 ≤ idxM W q r ∧ idxM W q r < W * H := by
  obtain ⟨a, b, c, d⟩ := inM_true h
  have h1 : 0 ≤ r * W := Int.mul_nonneg (by omega) (by omega)
  have h2 : 0 ≤ (H - 1 - r) * W := Int.mul_nonneg (by omega) (by omega)
  simp only [Int.sub_mul] at h2
  rw [Int.mul_comm W H]
  unfold idxM
  omega

theorem edgeB_nat {W H e : Int} (h : 0 ≤ e) : edgeB W H e = nbB W H (e / 3) (e % 3) := by
  unfold edgeB
  rw [Int.tdiv_eq_ediv_of_nonneg h, Int.tmod_eq_emod_of_nonneg h]
theorem edgeB_neg {W H e : Int} (h : e < 0) : edgeB W H e = false := by
  unfold edgeB nbB
  by_cases h1 : e.tdiv 3 < 0
  · have : onI W H (e.tdiv 3) = false := by unfold onI; simp; omega
    simp [this]
  · have : dirB (e.tmod 3) = false := by
      unfold dirB
      have := Int.mul_tdiv_add_tmod e 3
      simp
      omega
    simp [this]
theorem edgeB_big {W H e : Int} (h : 3 * (W * H) ≤ e) (h0 : 0 ≤ e) : edgeB W H e = false := by
  rw [edgeB_nat h0]
  have : onI W H (e / 3) = false := by unfold onI; simp; omega
  simp [nbB, this]
theorem edgeB_in {W H e : Int} (h0 : 0 ≤ e) (h : e < 3 * (W * H)) : edgeB W H e = nbM W H (e / 3) (e % 3) := by
  rw [edgeB_nat h0]
  have h1 : onI W H (e / 3) = true := onI_mk (by omega) (by omega)
  have h2 : dirB (e % 3) = true := dirB_mk (by omega) (by omega)
  simp [nbB, h1, h2]
theorem edgesFrom_eq (W H : Int) : ∀ (p : Int) (l : List Int), edgesFrom W H p l = (l.all (edgeB W H) && riseFrom p l)
  | _, [] => rfl
  | p, x :: l => by
    simp only [edgesFrom, riseFrom, List.all_cons, edgesFrom_eq W H x l]
    cases edgeB W H x <;> cases decide (p < x) <;> simp
theorem edgesOk_eq (W H : Int) (l : List Int) : edgesOk W H l = (l.all (edgeB W H) && riseFrom (-1) l) := edgesFrom_eq W H _ _

end Go.Proofs.YtpdcmpojjchobaaDoor

/-
  The program's small functions on maps return what plain functions on integers say, and change nothing that was there.
-/
namespace Go.Proofs.YtpdcmpojjchobaaDoor
open Go.RowKit

abbrev mp (W H : Int) (t r d : Value) : Value := .agg #[.int .i64 W, .int .i64 H, t, r, d]

theorem isSide_any (n : Int) (w : World) :
    Calls Tryd.prog 94 #[.int .i64 n] w fun e w' => e = .returned (.bool (sideB n)) ∧ w = w' := by
  by_cases h1 : 1 ≤ n
  · by_cases h2 : n ≤ 10
    · go_enter Tryd.func94, Tryd.ntmps94
      go_wp2
      go_ret
      exact ⟨ret_bool (by simp [sideB, h1, h2]), rfl⟩
    · go_enter Tryd.func94, Tryd.ntmps94
      go_wp2
      go_ret
      exact ⟨ret_bool (by simp [sideB]; omega), rfl⟩
  · go_enter Tryd.func94, Tryd.ntmps94
    go_wp2
    go_ret
    exact ⟨ret_bool (by simp [sideB]; omega), rfl⟩

theorem isTerrain_any (n : Int) (w : World) :
    Calls Tryd.prog 96 #[.int .i64 n] w fun e w' => e = .returned (.bool (terrB n)) ∧ w = w' := by
  by_cases h1 : 0 ≤ n
  · by_cases h2 : n < 6
    · go_enter Tryd.func96, Tryd.ntmps96
      go_wp2
      go_ret
      exact ⟨ret_bool (by simp [terrB]; omega), rfl⟩
    · go_enter Tryd.func96, Tryd.ntmps96
      go_wp2
      go_ret
      exact ⟨ret_bool (by simp [terrB]; omega), rfl⟩
  · go_enter Tryd.func96, Tryd.ntmps96
    go_wp2
    go_ret
    exact ⟨ret_bool (by simp [terrB]; omega), rfl⟩

theorem countHexes_any (W H : Int) (t r d : Value) (w : World) (a : 1 ≤ W) (b : W ≤ 10) (c : 1 ≤ H) (e : H ≤ 10) :
    Calls Tryd.prog 95 #[mp W H t r d] w fun e w' => e = .returned (.int .i64 (W * H)) ∧ Kp w w' := by
  have hb := area_bd a b c e
  go_enter Tryd.func95, Tryd.ntmps95
  go_wp2
  go_ret
  exact ⟨rfl, (Kp.refl _).alloc _⟩

theorem isIndex_any (W H : Int) (t r d : Value) (i : Int) (w : World) (a : 1 ≤ W) (b : W ≤ 10) (c : 1 ≤ H) (e : H ≤ 10) :
    Calls Tryd.prog 159 #[mp W H t r d, .int .i64 i] w fun e w' => e = .returned (.bool (onI W H i)) ∧ Kp w w' := by
  by_cases h0 : 0 ≤ i
  · by_cases h1 : i < W * H
    · go_enter Tryd.func159, Tryd.ntmps159
      go_wp2_with fail
      refine (countHexes_any _ _ _ _ _ _ a b c e).mono ?_
      rintro e w1 ⟨rfl, k1⟩
      go_wp2
      go_ret
      exact ⟨ret_bool (onI_mk h0 h1).symm, ((Kp.refl _).alloc _).trans k1⟩
    · have hd : decide (i < W * H) = false := by simpa using h1
      go_enter Tryd.func159, Tryd.ntmps159
      go_wp2_with fail
      refine (countHexes_any _ _ _ _ _ _ a b c e).mono ?_
      rintro e w1 ⟨rfl, k1⟩
      go_wp2
      go_ret
      exact ⟨ret_bool (by simp [onI]; omega), ((Kp.refl _).alloc _).trans k1⟩
  · have hd : decide (0 ≤ i) = false := by simpa using h0
    go_enter Tryd.func159, Tryd.ntmps159
    go_wp2
    go_ret
    exact ⟨ret_bool (by simp [onI]; omega), (Kp.refl _).alloc _⟩

theorem hexWithIndex_any (W H : Int) (t r d : Value) (i : Int) (w : World) (a : 1 ≤ W) (b : W ≤ 10) (h0 : 0 ≤ i) (h1 : i ≤ 100000) :
    Calls Tryd.prog 163 #[mp W H t r d, .int .i64 i] w fun e w' => e = .returned (hx (i % W) (i / W)) ∧ Kp w w' := by
  have hW0 : W ≠ 0 := by omega
  go_enter Tryd.func163, Tryd.ntmps163
  go_wp2
  go_region
  all_goals
    go_wp2
    exact bodyPost_ret (v := hx (i % W) (i / W)) (by simp [results, Tryd.results163, go_sem]) rfl ⟨rfl, (((Kp.refl _).alloc _).alloc _).drew⟩

theorem ib_true (x : Int) : ib true x = .tuple #[.int .i64 x, .bool true] := rfl
theorem ib_false (x : Int) : ib false x = .tuple #[.int .i64 0, .bool false] := rfl

theorem indexOfHex_any (W H : Int) (t r d : Value) (hq hr : Int) (w : World) (a : 1 ≤ W) (b : W ≤ 10) (c : 1 ≤ H) (e : H ≤ 10) :
    Calls Tryd.prog 161 #[mp W H t r d, hx hq hr] w fun e w' => e = .returned (ib (inM W H hq hr) (idxM W hq hr)) ∧ Kp w w' := by
  by_cases h : 0 ≤ hq ∧ hq < W ∧ 0 ≤ hr ∧ hr < H
  · obtain ⟨h1, h2, h3, h4⟩ := h
    rw [inM_mk h1 h2 h3 h4, ib_true]
    have hm := mul_bd a b (r := hr) (by omega) (by omega)
    unfold idxM
    go_enter Tryd.func161, Tryd.ntmps161
    go_wp2
    go_ret2
    exact ⟨rfl, ((Kp.refl _).alloc _).alloc _⟩
  · have hf : inM W H hq hr = false := by simp [inM]; omega
    rw [hf, ib_false]
    clear hf
    go_enter Tryd.func161, Tryd.ntmps161
    go_wp2
    all_goals
      go_ret2
      exact ⟨rfl, ((Kp.refl _).alloc _).alloc _⟩

end Go.Proofs.YtpdcmpojjchobaaDoor

/-
  The program's neighbours and edges of a map return what plain functions on integers say, and change nothing that was there. The table of directions holds what the program's text lays.
-/
namespace Go.Proofs.YtpdcmpojjchobaaDoor
open Go.RowKit

theorem keep5 {W0 w w1 : World} {b : Nat} {v0 v1 v2 v3 v4 : Value} (k : Kp w w1)
    (h : w.cell? ⟨b, 0, none⟩ = some v0 ∧ w.cell? ⟨b, 1, none⟩ = some v1 ∧ w.cell? ⟨b, 2, none⟩ = some v2 ∧ w.cell? ⟨b, 3, none⟩ = some v3 ∧ w.cell? ⟨b, 4, none⟩ = some v4 ∧ Kp W0 w) :
    w1.cell? ⟨b, 0, none⟩ = some v0 ∧ w1.cell? ⟨b, 1, none⟩ = some v1 ∧ w1.cell? ⟨b, 2, none⟩ = some v2 ∧ w1.cell? ⟨b, 3, none⟩ = some v3 ∧ w1.cell? ⟨b, 4, none⟩ = some v4 ∧ Kp W0 w1 :=
  ⟨k.cell h.1, k.cell h.2.1, k.cell h.2.2.1, k.cell h.2.2.2.1, k.cell h.2.2.2.2.1, h.2.2.2.2.2.trans k⟩
theorem new5 (w : World) (v0 v1 v2 v3 v4 : Value) (T : TypeId) :
    (w.alloc (.cells #[v0, v1, v2, v3, v4] T)).cell? ⟨w.heap.size, 0, none⟩ = some v0 ∧ (w.alloc (.cells #[v0, v1, v2, v3, v4] T)).cell? ⟨w.heap.size, 1, none⟩ = some v1 ∧ (w.alloc (.cells #[v0, v1, v2, v3, v4] T)).cell? ⟨w.heap.size, 2, none⟩ = some v2 ∧ (w.alloc (.cells #[v0, v1, v2, v3, v4] T)).cell? ⟨w.heap.size, 3, none⟩ = some v3 ∧ (w.alloc (.cells #[v0, v1, v2, v3, v4] T)).cell? ⟨w.heap.size, 4, none⟩ = some v4 ∧ Kp w (w.alloc (.cells #[v0, v1, v2, v3, v4] T)) :=
  ⟨by simp [go_sem], by simp [go_sem], by simp [go_sem], by simp [go_sem], by simp [go_sem], (Kp.refl _).alloc _⟩
theorem keep7 {W0 w w1 : World} {b g o : Nat} {v0 v1 v2 v3 v4 x y : Value} (k : Kp w w1)
    (h : w.cell? ⟨b, 0, none⟩ = some v0 ∧ w.cell? ⟨b, 1, none⟩ = some v1 ∧ w.cell? ⟨b, 2, none⟩ = some v2 ∧ w.cell? ⟨b, 3, none⟩ = some v3 ∧ w.cell? ⟨b, 4, none⟩ = some v4 ∧ w.cell? ⟨g, o, none⟩ = some x ∧ w.cell? ⟨g, o + 1, none⟩ = some y ∧ Kp W0 w) :
    w1.cell? ⟨b, 0, none⟩ = some v0 ∧ w1.cell? ⟨b, 1, none⟩ = some v1 ∧ w1.cell? ⟨b, 2, none⟩ = some v2 ∧ w1.cell? ⟨b, 3, none⟩ = some v3 ∧ w1.cell? ⟨b, 4, none⟩ = some v4 ∧ w1.cell? ⟨g, o, none⟩ = some x ∧ w1.cell? ⟨g, o + 1, none⟩ = some y ∧ Kp W0 w1 :=
  ⟨k.cell h.1, k.cell h.2.1, k.cell h.2.2.1, k.cell h.2.2.2.1, k.cell h.2.2.2.2.1, k.cell h.2.2.2.2.2.1, k.cell h.2.2.2.2.2.2.1, h.2.2.2.2.2.2.2.trans k⟩

theorem isDirection_d (d : Int) (w : World) :
    Calls Tryd.prog 160 #[.int .i64 d] w fun e w' => e = .returned (.bool (dirB d)) ∧ w = w' := isDirection_any d w

set_option maxHeartbeats 1000000 in
theorem neighbourIndex_yes (W H : Int) (t r d : Value) (i x : Int) (w : World) (a : 1 ≤ W) (b : W ≤ 10) (c : 1 ≤ H) (e : H ≤ 10) (ht : Tab w) (ho : onI W H i = true) (hd : dirB x = true) :
    Calls Tryd.prog 139 #[mp W H t r d, .int .i64 i, .int .i64 x] w fun e w' => e = .returned (ib (nbM W H i x) (nbI W i x)) ∧ Kp w w' := by
  obtain ⟨h0, h1⟩ := onI_true ho
  obtain ⟨d0, d5⟩ := dirB_true hd
  have hA := area_bd a b c e
  obtain ⟨n, rfl⟩ := Int.eq_ofNat_of_zero_le d0
  have bd := dir_bd n
  have hh := hex_bd a b h0 h1
  have HT := Lib.hid ht
  have hn : (n : Int) < 6 := by omega
  unfold nbM nbI nbQ nbR
  clear ht
  go_enter Tryd.func139, Tryd.ntmps139
  go_wp2_with fail
  have s0 := new5 w (.int .i64 W) (.int .i64 H) t r d 43
  refine (isIndex_any _ _ _ _ _ _ _ a b c e).mono ?_
  rintro e1 wa ⟨rfl, ka⟩
  have s1 := keep5 ka s0
  clear s0 ka
  obtain ⟨t0, t1⟩ := HT.out.keep s1.2.2.2.2.2 n (by omega)
  have s2 : wa.drew.cell? ⟨w.heap.size, 0, none⟩ = some (.int .i64 W) ∧ wa.drew.cell? ⟨w.heap.size, 1, none⟩ = some (.int .i64 H) ∧ wa.drew.cell? ⟨w.heap.size, 2, none⟩ = some t ∧ wa.drew.cell? ⟨w.heap.size, 3, none⟩ = some r ∧ wa.drew.cell? ⟨w.heap.size, 4, none⟩ = some d ∧ wa.drew.cell? ⟨19, n * 2, none⟩ = some (.int .i64 (dirQ n)) ∧ wa.drew.cell? ⟨19, n * 2 + 1, none⟩ = some (.int .i64 (dirR n)) ∧ Kp w wa.drew :=
    ⟨s1.1, s1.2.1, s1.2.2.1, s1.2.2.2.1, s1.2.2.2.2.1, t0, t1, s1.2.2.2.2.2.drew⟩
  go_wp2_with fail
  refine (isDirection_d _ _).mono ?_
  rintro e2 wb ⟨rfl, rfl⟩
  go_wp2_with fail
  go_region_held3 (fun w' => w'.cell? ⟨w.heap.size, 0, none⟩ = some (.int .i64 W) ∧ w'.cell? ⟨w.heap.size, 1, none⟩ = some (.int .i64 H) ∧ w'.cell? ⟨w.heap.size, 2, none⟩ = some t ∧ w'.cell? ⟨w.heap.size, 3, none⟩ = some r ∧ w'.cell? ⟨w.heap.size, 4, none⟩ = some d ∧ w'.cell? ⟨19, n * 2, none⟩ = some (.int .i64 (dirQ n)) ∧ w'.cell? ⟨19, n * 2 + 1, none⟩ = some (.int .i64 (dirR n)) ∧ Kp w w') (first | assumption | exact s2)
    (first
      | (go_at_call 163; refine (hexWithIndex_any _ _ _ _ _ _ _ a b h0 (by omega)).mono ?_; rintro e wc ⟨rfl, kc⟩; have sc := keep7 kc (by assumption))
      | (go_at_call 162; refine (shifted_any _ _ _ _ _ (by omega) (by omega) (by omega) (by omega) (by omega) (by omega) (by omega) (by omega)).mono ?_; rintro e wd ⟨rfl, kd⟩; have sd := keep7 kd (by assumption))
      | (go_at_call 161; refine (indexOfHex_any _ _ _ _ _ _ _ _ a b c e).mono ?_; rintro e3 we ⟨rfl, ke⟩; have se := keep7 ke (by assumption)))
  all_goals
    go_wp2_with fail
    go_ret2
    exact ⟨rfl, se.2.2.2.2.2.2.2⟩

theorem neighbourIndex_any (W H : Int) (t r d : Value) (i x : Int) (w : World) (a : 1 ≤ W) (b : W ≤ 10) (c : 1 ≤ H) (e : H ≤ 10) (ht : Tab w) :
    Calls Tryd.prog 139 #[mp W H t r d, .int .i64 i, .int .i64 x] w fun e w' => e = .returned (ib (nbB W H i x) (nbI W i x)) ∧ Kp w w' := by
  cases ho : onI W H i
  · have en : nbB W H i x = false := by simp [nbB, ho]
    rw [en, ib_false]
    clear en
    go_enter Tryd.func139, Tryd.ntmps139
    go_wp2_with fail
    refine (isIndex_any _ _ _ _ _ _ _ a b c e).mono ?_
    rintro e1 wa ⟨rfl, ka⟩
    go_wp2_with fail
    go_ret2
    exact ⟨rfl, ((Kp.refl _).alloc _).trans ka⟩
  · cases hd : dirB x
    · have en : nbB W H i x = false := by simp [nbB, hd]
      rw [en, ib_false]
      clear en
      go_enter Tryd.func139, Tryd.ntmps139
      go_wp2_with fail
      refine (isIndex_any _ _ _ _ _ _ _ a b c e).mono ?_
      rintro e1 wa ⟨rfl, ka⟩
      go_wp2_with fail
      refine (isDirection_d _ _).mono ?_
      rintro e2 wb ⟨rfl, rfl⟩
      go_wp2_with fail
      go_ret2
      exact ⟨rfl, ((Kp.refl _).alloc _).trans ka⟩
    · have en : nbB W H i x = nbM W H i x := by simp [nbB, ho, hd]
      rw [en]
      exact neighbourIndex_yes W H t r d i x w a b c e ht ho hd

theorem nbB_true {W H i x : Int} (h : nbB W H i x = true) : (0 ≤ i ∧ i < W * H) ∧ (0 ≤ x ∧ x ≤ 5) ∧ 0 ≤ nbI W i x ∧ nbI W i x < W * H := by
  simp only [nbB, Bool.and_eq_true] at h
  exact ⟨onI_true h.1, dirB_true h.2.1, idx_bd h.2.2⟩

abbrev iib (b : Bool) (x y : Int) : Value := .tuple #[.int .i64 (vI b x), .int .i64 (vI b y), .bool b]

theorem edgeEnds_any (W H : Int) (t r d : Value) (x : Int) (w : World) (a : 1 ≤ W) (b : W ≤ 10) (c : 1 ≤ H) (e : H ≤ 10) (ht : Tab w) (hx : isI64 x) :
    Calls Tryd.prog 120 #[mp W H t r d, .int .i64 x] w fun e w' => e = .returned (iib (edgeB W H x) (x / 3) (nbI W (x / 3) (x % 3))) ∧ Kp w w' := by
  have HT := Lib.hid (Tab.keep ht ((Kp.refl w).alloc (.cells #[.int .i64 W, .int .i64 H, t, r, d] 43)))
  obtain ⟨x1, x2⟩ := hx
  clear ht
  by_cases h0 : 0 ≤ x
  · rw [edgeB_nat h0]
    cases hn : nbB W H (x / 3) (x % 3)
    · go_enter Tryd.func120, Tryd.ntmps120
      go_wp2_with fail
      refine (neighbourIndex_any _ _ _ _ _ _ _ _ a b c e HT.out).mono ?_
      rintro e1 wa ⟨rfl, ka⟩
      go_wp2_with fail
      go_ret3
      exact ⟨rfl, ((Kp.refl _).alloc _).trans ka⟩
    · go_enter Tryd.func120, Tryd.ntmps120
      go_wp2_with fail
      refine (neighbourIndex_any _ _ _ _ _ _ _ _ a b c e HT.out).mono ?_
      rintro e1 wa ⟨rfl, ka⟩
      go_wp2_with fail
      go_ret3
      exact ⟨rfl, ((Kp.refl _).alloc _).trans ka⟩
  · have hn := edgeB_neg (W := W) (H := H) (e := x) (by omega)
    rw [hn]
    unfold edgeB at hn
    go_enter Tryd.func120, Tryd.ntmps120
    go_wp2_with fail
    refine (neighbourIndex_any _ _ _ _ _ _ _ _ a b c e HT.out).mono ?_
    rintro e1 wa ⟨rfl, ka⟩
    go_wp2_with fail
    go_ret3
    exact ⟨rfl, ((Kp.refl _).alloc _).trans ka⟩

end Go.Proofs.YtpdcmpojjchobaaDoor

/-
  The program's lists of edges and its test of a map return what plain functions on lists say, and change nothing that was there. The table of directions holds what the program's text lays.
-/
namespace Go.Proofs.YtpdcmpojjchobaaDoor
open Go.RowKit

theorem Tab.k5 {w w' : World} {b : Nat} {v0 v1 v2 v3 v4 : Value} (ht : Tab w)
    (h : w'.cell? ⟨b, 0, none⟩ = some v0 ∧ w'.cell? ⟨b, 1, none⟩ = some v1 ∧ w'.cell? ⟨b, 2, none⟩ = some v2 ∧ w'.cell? ⟨b, 3, none⟩ = some v3 ∧ w'.cell? ⟨b, 4, none⟩ = some v4 ∧ Kp w w') : Tab w' := ht.keep h.2.2.2.2.2

theorem edgesFrom_no1 {W H p x : Int} {l : List Int} (h : edgeB W H x = false) : edgesFrom W H p (x :: l) = false := by simp [edgesFrom, h]
theorem edgesFrom_no2 {W H p x : Int} {l : List Int} (h : ¬ p < x) : edgesFrom W H p (x :: l) = false := by simp [edgesFrom, h]
theorem edgesFrom_go {W H p x : Int} {l : List Int} (h : edgeB W H x = true) (h' : p < x) : edgesFrom W H p (x :: l) = edgesFrom W H x l := by simp [edgesFrom, h, h']

theorem areEdges_any (W H : Int) (t r d v : Value) (l : List Int) (w : World) (a : 1 ≤ W) (b : W ≤ 10) (c : 1 ≤ H) (e : H ≤ 10) (ht : Tab w) (h : RdI w v l) (hB : ∀ x ∈ l, isI64 x) (hl : l.length ≤ 1048576) :
    Calls Tryd.prog 97 #[mp W H t r d, v] w fun e w' => e = .returned (.bool (edgesOk W H l)) ∧ Kp w w' := by
  obtain ⟨A, cp, rfl, h⟩ := h
  have HA := Lib.hid h
  have HB := Lib.hid hB
  have HT := Lib.hid ht
  obtain ⟨R, hR⟩ : ∃ R, R = edgesOk W H l := ⟨_, rfl⟩
  rw [← hR]
  have HR := Lib.hid hR
  clear h hB ht hR
  generalize hn : l.length = n at *
  have HN := Lib.hid hn
  clear hn
  have s0 := new5 w (.int .i64 W) (.int .i64 H) t r d 43
  go_enter Tryd.func97, Tryd.ntmps97
  go_wp2_with fail
  go_loopw [5, 13] (fun q i wr => ∃ (k : Nat) (p : Int), k ≤ n ∧ i = .int .i64 k ∧ q = .int .i64 p ∧ Hid (edgesFrom W H p (l.drop k) = R) ∧
    (wr.cell? ⟨w.heap.size, 0, none⟩ = some (.int .i64 W) ∧ wr.cell? ⟨w.heap.size, 1, none⟩ = some (.int .i64 H) ∧ wr.cell? ⟨w.heap.size, 2, none⟩ = some t ∧ wr.cell? ⟨w.heap.size, 3, none⟩ = some r ∧ wr.cell? ⟨w.heap.size, 4, none⟩ = some d ∧ Kp w wr)) (fun _ i _ => n - (intOf i).toNat)
  case atStart => exact ⟨0, -1, by omega, rfl, rfl, Lib.hid (by rw [HR.out]; rfl), s0⟩
  case round =>
    clear s0
    obtain ⟨k, p, hk, rfl, rfl, hE, sr⟩ := hrel
    by_cases hlt : k < n
    · obtain ⟨g, off, rfl, hc⟩ := HA.out (by omega)
      obtain ⟨x, hx⟩ : ∃ x, l[k]? = some x := ⟨l[k]'(by have := HN.out; omega), List.getElem?_eq_getElem _⟩
      have a0 := sr.2.2.2.2.2.cell (hc k x hx)
      have HX := Lib.hid (drop_step hx)
      have Hx := Lib.hid (HB.out x (List.mem_of_getElem? hx))
      clear hc hx
      have hlt' : (k : Int) < n := by omega
      cases hok : edgeB W H x
      · go_wp2_with fail
        refine (edgeEnds_any _ _ _ _ _ _ _ a b c e (HT.out.k5 sr) Hx.out).mono ?_
        rintro e1 wa ⟨rfl, ka⟩
        go_wp2_with fail
        go_ret
        have e : R = false := by rw [← hE.out, HX.out]; exact edgesFrom_no1 hok
        exact ⟨ret_bool e.symm, sr.2.2.2.2.2.trans ka⟩
      · by_cases hp : p < x
        · have hp' : decide (x ≤ p) = false := by simp; omega
          have HE2 : Hid (edgesFrom W H x (l.drop (k + 1)) = R) := Lib.hid (by rw [← hE.out, HX.out]; exact (edgesFrom_go hok hp).symm)
          go_wp2_with fail
          refine (edgeEnds_any _ _ _ _ _ _ _ a b c e (HT.out.k5 sr) Hx.out).mono ?_
          rintro e1 wa ⟨rfl, ka⟩
          have sa := keep5 ka sr
          go_wp2_with fail
          go_roundw
          case rel => exact ⟨k + 1, x, by omega, by go_num, rfl, HE2, sa⟩
          case measure => simp [intOf]; omega
        · have hp' : x ≤ p := by omega
          have e : R = false := by rw [← hE.out, HX.out]; exact edgesFrom_no2 hp
          have HE2 := Lib.hid e
          clear e
          go_wp2_with fail
          refine (edgeEnds_any _ _ _ _ _ _ _ a b c ‹_› (HT.out.k5 sr) Hx.out).mono ?_
          rintro e1 wa ⟨rfl, ka⟩
          go_wp2_with fail
          go_ret
          exact ⟨ret_bool HE2.out.symm, sr.2.2.2.2.2.trans ka⟩
    · obtain rfl : k = n := by omega
      go_wp2_with fail
      go_ret
      refine ⟨ret_bool ?_, sr.2.2.2.2.2⟩
      rw [← hE.out, List.drop_of_length_le (by rw [HN.out]; omega)]
      rfl

theorem edgeListsOf_any (W H : Int) (t : Value) (Ar Ad : Option Addr) (nr cr nd cd : Nat) (w : World) :
    Calls Tryd.prog 52 #[mp W H t (.slice Ar nr cr) (.slice Ad nd cd)] w fun e w' => e = .returned (.agg #[.slice Ar nr cr, .slice Ad nd cd]) ∧ Kp w w' := by
  go_enter Tryd.func52, Tryd.ntmps52
  go_wp2
  exact bodyPost_ret (v := .agg #[.slice Ar nr cr, .slice Ad nd cd]) (by simp [results, Tryd.results52, go_sem]) rfl ⟨rfl, ((Kp.refl _).alloc _).alloc _⟩

/-- What a map's three lists are: slices that read as lists of numbers of 64 bits. -/
structure Lists (w : World) (t r d : Value) (lt lr ld : List Int) : Prop where
  rt : RdI w t lt
  rr : RdI w r lr
  rd : RdI w d ld
  bt : lt.length ≤ 1048576
  br : lr.length ≤ 1048576
  bd : ld.length ≤ 1048576
  it : ∀ x ∈ lt, isI64 x
  ir : ∀ x ∈ lr, isI64 x
  id : ∀ x ∈ ld, isI64 x
theorem Lists.keep {w w' : World} {t r d : Value} {lt lr ld : List Int} (h : Lists w t r d lt lr ld) (k : Kp w w') : Lists w' t r d lt lr ld :=
  ⟨h.rt.keep k, h.rr.keep k, h.rd.keep k, h.bt, h.br, h.bd, h.it, h.ir, h.id⟩

theorem index0 (r d : Value) (w : World) : (Instr.index 92 (.agg #[r, d]) (.int .i64 0)).run Tryd.prog w = .ok r w := by kernel_rfl
theorem index1 (r d : Value) (w : World) : (Instr.index 92 (.agg #[r, d]) (.int .i64 1)).run Tryd.prog w = .ok d w := by kernel_rfl

end Go.Proofs.YtpdcmpojjchobaaDoor

/-
  The reference's functions on maps return what plain functions on integers and lists say, and change nothing that was there.
-/
namespace Go.Proofs.YtpdcmpojjchobaaDoor
open Go.RowKit

theorem mSize_any (W H : Int) (t r d : Value) (w : World) (a : 1 ≤ W) (b : W ≤ 10) (c : 1 ≤ H) (e : H ≤ 10) :
    Calls Tryd.prog 91 #[mp W H t r d] w fun e w' => e = .returned (.int .i64 (W * H)) ∧ Kp w w' := by
  have hb := area_bd a b c e
  go_enter Tryd.func91, Tryd.ntmps91
  go_wp2
  go_ret
  exact ⟨rfl, (Kp.refl _).alloc _⟩

theorem mHex_any (W H : Int) (t r d : Value) (i : Int) (w : World) (a : 1 ≤ W) (b : W ≤ 10) (h0 : 0 ≤ i) (h1 : i ≤ 100000) :
    Calls Tryd.prog 138 #[mp W H t r d, .int .i64 i] w fun e w' => e = .returned (hx (i % W) (i / W)) ∧ Kp w w' := by
  have hW0 : W ≠ 0 := by omega
  go_enter Tryd.func138, Tryd.ntmps138
  go_wp2
  go_region
  all_goals
    go_wp2
    exact bodyPost_ret (v := hx (i % W) (i / W)) (by simp [results, Tryd.results138, go_sem]) rfl ⟨rfl, (((Kp.refl _).alloc _).alloc _).drew⟩

def orNo (b : Bool) (x : Int) : Int := if b = true then x else -1
theorem orNo_true (x : Int) : orNo true x = x := rfl
theorem orNo_false (x : Int) : orNo false x = -1 := rfl

def inB (n h : Int) : Bool := decide (0 ≤ n) && decide (n < h)
theorem l1In_lt (n h m : Int) (w : World) (hm : m = h - 1) :
    Calls Tryd.prog 30 #[.int .i64 n, .int .i64 0, .int .i64 m] w fun e w' => e = .returned (.bool (inB n h)) ∧ w = w' := by
  have e : inB n h = (decide (0 ≤ n) && decide (n ≤ m)) := by
    unfold inB
    congr 1
    rw [decide_eq_decide]
    omega
  rw [e]
  exact l1In_gen n 0 m w

theorem mIndex_any (W H : Int) (t r d : Value) (hq hr : Int) (w : World) (a : 1 ≤ W) (b : W ≤ 10) (c : 1 ≤ H) (e : H ≤ 10) :
    Calls Tryd.prog 136 #[mp W H t r d, hx hq hr] w fun e w' => e = .returned (.int .i64 (orNo (inM W H hq hr) (idxM W hq hr))) ∧ Kp w w' := by
  cases h1 : inB hq W
  · have hf : inM W H hq hr = false := by unfold inB at h1; simp only [inM, h1, Bool.false_and]
    rw [hf, orNo_false]
    go_enter Tryd.func136, Tryd.ntmps136
    go_wp2_with fail
    refine (l1In_lt _ W _ _ rfl).mono ?_
    rintro e1 w1 ⟨rfl, rfl⟩
    go_wp2_with fail
    go_ret
    exact ⟨rfl, ((Kp.refl _).alloc _).alloc _⟩
  · cases h2 : inB hr H
    · have hf : inM W H hq hr = false := by unfold inB at h2; simp only [inM, h2, Bool.and_false]
      rw [hf, orNo_false]
      go_enter Tryd.func136, Tryd.ntmps136
      go_wp2_with fail
      refine (l1In_lt _ W _ _ rfl).mono ?_
      rintro e1 w1 ⟨rfl, rfl⟩
      go_wp2_with fail
      refine (l1In_lt _ H _ _ rfl).mono ?_
      rintro e1 w1 ⟨rfl, rfl⟩
      go_wp2_with fail
      go_ret
      exact ⟨rfl, ((Kp.refl _).alloc _).alloc _⟩
    · have hf : inM W H hq hr = true := by unfold inB at h1 h2; simp only [inM, h1, h2, Bool.and_self]
      obtain ⟨b1, b2, b3, b4⟩ := inM_true hf
      have hm := mul_bd a b (r := hr) (by omega) (by omega)
      rw [hf, orNo_true]
      unfold idxM
      clear hf
      go_enter Tryd.func136, Tryd.ntmps136
      go_wp2_with fail
      refine (l1In_lt _ W _ _ rfl).mono ?_
      rintro e1 w1 ⟨rfl, rfl⟩
      go_wp2_with fail
      refine (l1In_lt _ H _ _ rfl).mono ?_
      rintro e1 w1 ⟨rfl, rfl⟩
      go_wp2_with fail
      go_ret
      exact ⟨rfl, ((Kp.refl _).alloc _).alloc _⟩

set_option maxHeartbeats 1000000 in
theorem mNext_any (W H : Int) (t r d : Value) (i x : Int) (w : World) (a : 1 ≤ W) (b : W ≤ 10) (c : 1 ≤ H) (e : H ≤ 10) (h0 : 0 ≤ i) (h1 : i < W * H) (d0 : 0 ≤ x) (d5 : x ≤ 5) :
    Calls Tryd.prog 118 #[mp W H t r d, .int .i64 i, .int .i64 x] w fun e w' => e = .returned (.int .i64 (orNo (nbM W H i x) (nbI W i x))) ∧ Kp w w' := by
  have hA := area_bd a b c e
  have bd := dir_bd x
  have hh := hex_bd a b h0 h1
  unfold nbM nbI nbQ nbR
  have s0 := new5 w (.int .i64 W) (.int .i64 H) t r d 43
  have s1 : (w.alloc (.cells #[.int .i64 W, .int .i64 H, t, r, d] 43)).drew.cell? ⟨w.heap.size, 0, none⟩ = some (.int .i64 W) ∧ (w.alloc (.cells #[.int .i64 W, .int .i64 H, t, r, d] 43)).drew.cell? ⟨w.heap.size, 1, none⟩ = some (.int .i64 H) ∧ (w.alloc (.cells #[.int .i64 W, .int .i64 H, t, r, d] 43)).drew.cell? ⟨w.heap.size, 2, none⟩ = some t ∧ (w.alloc (.cells #[.int .i64 W, .int .i64 H, t, r, d] 43)).drew.cell? ⟨w.heap.size, 3, none⟩ = some r ∧ (w.alloc (.cells #[.int .i64 W, .int .i64 H, t, r, d] 43)).drew.cell? ⟨w.heap.size, 4, none⟩ = some d ∧ Kp w (w.alloc (.cells #[.int .i64 W, .int .i64 H, t, r, d] 43)).drew :=
    ⟨s0.1, s0.2.1, s0.2.2.1, s0.2.2.2.1, s0.2.2.2.2.1, s0.2.2.2.2.2.drew⟩
  go_enter Tryd.func118, Tryd.ntmps118
  go_wp2_with fail
  generalize w.alloc (.cells #[.int .i64 W, .int .i64 H, t, r, d] 43) = W0 at *
  go_region_held3 (fun w' => w'.cell? ⟨w.heap.size, 0, none⟩ = some (.int .i64 W) ∧ w'.cell? ⟨w.heap.size, 1, none⟩ = some (.int .i64 H) ∧ w'.cell? ⟨w.heap.size, 2, none⟩ = some t ∧ w'.cell? ⟨w.heap.size, 3, none⟩ = some r ∧ w'.cell? ⟨w.heap.size, 4, none⟩ = some d ∧ Kp w w') (first | assumption | exact s1)
    (first
      | (go_at_call 138; refine (mHex_any _ _ _ _ _ _ _ a b h0 (by omega)).mono ?_; rintro e wc ⟨rfl, kc⟩; have sc := keep5 kc (by assumption))
      | (go_at_call 137; refine (hStep_any _ _ _ _ d0 d5 (by omega) (by omega) (by omega) (by omega)).mono ?_; rintro e wd ⟨rfl, kd⟩; have sd := keep5 kd (by assumption))
      | (go_at_call 136; refine (mIndex_any _ _ _ _ _ _ _ _ a b c e).mono ?_; rintro e3 we ⟨rfl, ke⟩; have se := keep5 ke (by assumption)))
  all_goals
    go_wp2_with fail
    go_ret
    exact ⟨rfl, se.2.2.2.2.2⟩

end Go.Proofs.YtpdcmpojjchobaaDoor
