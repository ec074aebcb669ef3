/-
 Texts of this seat in one module: Span, RulW.
-/
import Derived.Deep.RegionHeld3
import Derived.Test.YtacgknllagdkoaaGreatDoorQa
import Derived.Test.YtacgknllagdkoaaGreatDoorQe
/-
 The program's ranges of permitted numbers: what its variables hold, and the functions that ask whether numbers lie in them. Nothing that was there is changed.
-/
namespace Go.Proofs.YtacgknllagdkoaaGreatDoor
open Go.RowKit
/-- The program's ranges, as its text lays them. -/
structure Spans (w:World):Prop where
 terrains:SpanAt w 10 1 6
 cost:SpanAt w 17 0 9
 shift:SpanAt w 18 (-3) 3
 height:SpanAt w 19 0 3
 kinds:SpanAt w 11 1 4
 strength:SpanAt w 20 1 9
 moves:SpanAt w 21 0 9
 steps:SpanAt w 22 1 4
 view:SpanAt w 23 0 4
 stack:SpanAt w 12 1 4
 river:SpanAt w 13 0 9
 road:SpanAt w 14 1 9
 supply:SpanAt w 15 0 20
 turns:SpanAt w 16 1 30
theorem Spans.keep {w w':World} (h:Spans w) (k:Kp w w'):Spans w' :=
 ⟨⟨k.cell h.terrains.1,k.cell h.terrains.2⟩,⟨k.cell h.cost.1,k.cell h.cost.2⟩,⟨k.cell h.shift.1,k.cell h.shift.2⟩,⟨k.cell h.height.1,k.cell h.height.2⟩,⟨k.cell h.kinds.1,k.cell h.kinds.2⟩,⟨k.cell h.strength.1,k.cell h.strength.2⟩,⟨k.cell h.moves.1,k.cell h.moves.2⟩,⟨k.cell h.steps.1,k.cell h.steps.2⟩,⟨k.cell h.view.1,k.cell h.view.2⟩,⟨k.cell h.stack.1,k.cell h.stack.2⟩,⟨k.cell h.river.1,k.cell h.river.2⟩,⟨k.cell h.road.1,k.cell h.road.2⟩,⟨k.cell h.supply.1,k.cell h.supply.2⟩,⟨k.cell h.turns.1,k.cell h.turns.2⟩⟩
abbrev rv (t k:Value) (a b c d e:Int):Value:=.agg #[t,k,.int .i64 a,.int .i64 b,.int .i64 c,.int .i64 d,.int .i64 e]
set_option maxRecDepth 100000 in
set_option maxHeartbeats 4000000 in
theorem lim_no1 (t k:Value) (a b c d e:Int) (w:World) (hs:Spans w) (h0:spB 1 4 a=false) :
  Calls Tryz.prog 239 #[rv t k a b c d e] w fun e' w'=>e'=.returned (.bool false)∧Kp w w':=by
 have s0:cb7 (w.alloc (.cells #[t,k,.int .i64 a,.int .i64 b,.int .i64 c,.int .i64 d,.int .i64 e] 44)) (w.heap.size) (t) (k) (.int .i64 a) (.int .i64 b) (.int .i64 c) (.int .i64 d) (.int .i64 e) (cb2 (w.alloc (.cells #[t,k,.int .i64 a,.int .i64 b,.int .i64 c,.int .i64 d,.int .i64 e] 44)) 12 (.int .i64 1) (.int .i64 4) (cb2 (w.alloc (.cells #[t,k,.int .i64 a,.int .i64 b,.int .i64 c,.int .i64 d,.int .i64 e] 44)) 13 (.int .i64 0) (.int .i64 9) (cb2 (w.alloc (.cells #[t,k,.int .i64 a,.int .i64 b,.int .i64 c,.int .i64 d,.int .i64 e] 44)) 14 (.int .i64 1) (.int .i64 9) (cb2 (w.alloc (.cells #[t,k,.int .i64 a,.int .i64 b,.int .i64 c,.int .i64 d,.int .i64 e] 44)) 15 (.int .i64 0) (.int .i64 20) (cb2 (w.alloc (.cells #[t,k,.int .i64 a,.int .i64 b,.int .i64 c,.int .i64 d,.int .i64 e] 44)) 16 (.int .i64 1) (.int .i64 30) (Kp w (w.alloc (.cells #[t,k,.int .i64 a,.int .i64 b,.int .i64 c,.int .i64 d,.int .i64 e] 44)))))))) :=
  ⟨by simp [go_sem],by simp [go_sem],by simp [go_sem],by simp [go_sem],by simp [go_sem],by simp [go_sem],by simp [go_sem],((Kp.refl w).alloc _).cell hs.stack.1,((Kp.refl w).alloc _).cell hs.stack.2,((Kp.refl w).alloc _).cell hs.river.1,((Kp.refl w).alloc _).cell hs.river.2,((Kp.refl w).alloc _).cell hs.road.1,((Kp.refl w).alloc _).cell hs.road.2,((Kp.refl w).alloc _).cell hs.supply.1,((Kp.refl w).alloc _).cell hs.supply.2,((Kp.refl w).alloc _).cell hs.turns.1,((Kp.refl w).alloc _).cell hs.turns.2,(Kp.refl w).alloc _⟩
 clear hs
 go_enter Tryz.func239,Tryz.ntmps239
 go_wp2_with fail
 generalize w.alloc (.cells #[t,k,.int .i64 a,.int .i64 b,.int .i64 c,.int .i64 d,.int .i64 e] 44)=W0 at *
 refine(has_any _ _ _ _).mono ?_
 rintro e0 wz0 ⟨rfl,kz0⟩
 have sz0:cb7 wz0 (w.heap.size) (t) (k) (.int .i64 a) (.int .i64 b) (.int .i64 c) (.int .i64 d) (.int .i64 e) (cb2 wz0 12 (.int .i64 1) (.int .i64 4) (cb2 wz0 13 (.int .i64 0) (.int .i64 9) (cb2 wz0 14 (.int .i64 1) (.int .i64 9) (cb2 wz0 15 (.int .i64 0) (.int .i64 20) (cb2 wz0 16 (.int .i64 1) (.int .i64 30) (Kp w wz0)))))):=⟨kz0.cell s0.1,kz0.cell s0.2.1,kz0.cell s0.2.2.1,kz0.cell s0.2.2.2.1,kz0.cell s0.2.2.2.2.1,kz0.cell s0.2.2.2.2.2.1,kz0.cell s0.2.2.2.2.2.2.1,kz0.cell s0.2.2.2.2.2.2.2.1,kz0.cell s0.2.2.2.2.2.2.2.2.1,kz0.cell s0.2.2.2.2.2.2.2.2.2.1,kz0.cell s0.2.2.2.2.2.2.2.2.2.2.1,kz0.cell s0.2.2.2.2.2.2.2.2.2.2.2.1,kz0.cell s0.2.2.2.2.2.2.2.2.2.2.2.2.1,kz0.cell s0.2.2.2.2.2.2.2.2.2.2.2.2.2.1,kz0.cell s0.2.2.2.2.2.2.2.2.2.2.2.2.2.2.1,kz0.cell s0.2.2.2.2.2.2.2.2.2.2.2.2.2.2.2.1,kz0.cell s0.2.2.2.2.2.2.2.2.2.2.2.2.2.2.2.2.1,s0.2.2.2.2.2.2.2.2.2.2.2.2.2.2.2.2.2.trans kz0⟩
 clear s0 kz0
 go_wp2_with fail
 go_ret
 exact⟨rfl,sz0.2.2.2.2.2.2.2.2.2.2.2.2.2.2.2.2.2⟩
set_option maxRecDepth 100000 in
set_option maxHeartbeats 4000000 in
theorem lim_no2 (t k:Value) (a b c d e:Int) (w:World) (hs:Spans w) (h0:spB 1 4 a=true) (h1:spB 0 9 b=false) :
  Calls Tryz.prog 239 #[rv t k a b c d e] w fun e' w'=>e'=.returned (.bool false)∧Kp w w':=by
 have s0:cb7 (w.alloc (.cells #[t,k,.int .i64 a,.int .i64 b,.int .i64 c,.int .i64 d,.int .i64 e] 44)) (w.heap.size) (t) (k) (.int .i64 a) (.int .i64 b) (.int .i64 c) (.int .i64 d) (.int .i64 e) (cb2 (w.alloc (.cells #[t,k,.int .i64 a,.int .i64 b,.int .i64 c,.int .i64 d,.int .i64 e] 44)) 12 (.int .i64 1) (.int .i64 4) (cb2 (w.alloc (.cells #[t,k,.int .i64 a,.int .i64 b,.int .i64 c,.int .i64 d,.int .i64 e] 44)) 13 (.int .i64 0) (.int .i64 9) (cb2 (w.alloc (.cells #[t,k,.int .i64 a,.int .i64 b,.int .i64 c,.int .i64 d,.int .i64 e] 44)) 14 (.int .i64 1) (.int .i64 9) (cb2 (w.alloc (.cells #[t,k,.int .i64 a,.int .i64 b,.int .i64 c,.int .i64 d,.int .i64 e] 44)) 15 (.int .i64 0) (.int .i64 20) (cb2 (w.alloc (.cells #[t,k,.int .i64 a,.int .i64 b,.int .i64 c,.int .i64 d,.int .i64 e] 44)) 16 (.int .i64 1) (.int .i64 30) (Kp w (w.alloc (.cells #[t,k,.int .i64 a,.int .i64 b,.int .i64 c,.int .i64 d,.int .i64 e] 44)))))))) :=
  ⟨by simp [go_sem],by simp [go_sem],by simp [go_sem],by simp [go_sem],by simp [go_sem],by simp [go_sem],by simp [go_sem],((Kp.refl w).alloc _).cell hs.stack.1,((Kp.refl w).alloc _).cell hs.stack.2,((Kp.refl w).alloc _).cell hs.river.1,((Kp.refl w).alloc _).cell hs.river.2,((Kp.refl w).alloc _).cell hs.road.1,((Kp.refl w).alloc _).cell hs.road.2,((Kp.refl w).alloc _).cell hs.supply.1,((Kp.refl w).alloc _).cell hs.supply.2,((Kp.refl w).alloc _).cell hs.turns.1,((Kp.refl w).alloc _).cell hs.turns.2,(Kp.refl w).alloc _⟩
 clear hs
 go_enter Tryz.func239,Tryz.ntmps239
 go_wp2_with fail
 generalize w.alloc (.cells #[t,k,.int .i64 a,.int .i64 b,.int .i64 c,.int .i64 d,.int .i64 e] 44)=W0 at *
 refine(has_any _ _ _ _).mono ?_
 rintro e0 wz0 ⟨rfl,kz0⟩
 have sz0:cb7 wz0 (w.heap.size) (t) (k) (.int .i64 a) (.int .i64 b) (.int .i64 c) (.int .i64 d) (.int .i64 e) (cb2 wz0 12 (.int .i64 1) (.int .i64 4) (cb2 wz0 13 (.int .i64 0) (.int .i64 9) (cb2 wz0 14 (.int .i64 1) (.int .i64 9) (cb2 wz0 15 (.int .i64 0) (.int .i64 20) (cb2 wz0 16 (.int .i64 1) (.int .i64 30) (Kp w wz0)))))):=⟨kz0.cell s0.1,kz0.cell s0.2.1,kz0.cell s0.2.2.1,kz0.cell s0.2.2.2.1,kz0.cell s0.2.2.2.2.1,kz0.cell s0.2.2.2.2.2.1,kz0.cell s0.2.2.2.2.2.2.1,kz0.cell s0.2.2.2.2.2.2.2.1,kz0.cell s0.2.2.2.2.2.2.2.2.1,kz0.cell s0.2.2.2.2.2.2.2.2.2.1,kz0.cell s0.2.2.2.2.2.2.2.2.2.2.1,kz0.cell s0.2.2.2.2.2.2.2.2.2.2.2.1,kz0.cell s0.2.2.2.2.2.2.2.2.2.2.2.2.1,kz0.cell s0.2.2.2.2.2.2.2.2.2.2.2.2.2.1,kz0.cell s0.2.2.2.2.2.2.2.2.2.2.2.2.2.2.1,kz0.cell s0.2.2.2.2.2.2.2.2.2.2.2.2.2.2.2.1,kz0.cell s0.2.2.2.2.2.2.2.2.2.2.2.2.2.2.2.2.1,s0.2.2.2.2.2.2.2.2.2.2.2.2.2.2.2.2.2.trans kz0⟩
 clear s0 kz0
 go_wp2_with fail
 refine(has_any _ _ _ _).mono ?_
 rintro e1 wz1 ⟨rfl,kz1⟩
 have sz1:cb7 wz1 (w.heap.size) (t) (k) (.int .i64 a) (.int .i64 b) (.int .i64 c) (.int .i64 d) (.int .i64 e) (cb2 wz1 12 (.int .i64 1) (.int .i64 4) (cb2 wz1 13 (.int .i64 0) (.int .i64 9) (cb2 wz1 14 (.int .i64 1) (.int .i64 9) (cb2 wz1 15 (.int .i64 0) (.int .i64 20) (cb2 wz1 16 (.int .i64 1) (.int .i64 30) (Kp w wz1)))))):=⟨kz1.cell sz0.1,kz1.cell sz0.2.1,kz1.cell sz0.2.2.1,kz1.cell sz0.2.2.2.1,kz1.cell sz0.2.2.2.2.1,kz1.cell sz0.2.2.2.2.2.1,kz1.cell sz0.2.2.2.2.2.2.1,kz1.cell sz0.2.2.2.2.2.2.2.1,kz1.cell sz0.2.2.2.2.2.2.2.2.1,kz1.cell sz0.2.2.2.2.2.2.2.2.2.1,kz1.cell sz0.2.2.2.2.2.2.2.2.2.2.1,kz1.cell sz0.2.2.2.2.2.2.2.2.2.2.2.1,kz1.cell sz0.2.2.2.2.2.2.2.2.2.2.2.2.1,kz1.cell sz0.2.2.2.2.2.2.2.2.2.2.2.2.2.1,kz1.cell sz0.2.2.2.2.2.2.2.2.2.2.2.2.2.2.1,kz1.cell sz0.2.2.2.2.2.2.2.2.2.2.2.2.2.2.2.1,kz1.cell sz0.2.2.2.2.2.2.2.2.2.2.2.2.2.2.2.2.1,sz0.2.2.2.2.2.2.2.2.2.2.2.2.2.2.2.2.2.trans kz1⟩
 clear sz0 kz1
 go_wp2_with fail
 go_ret
 exact⟨rfl,sz1.2.2.2.2.2.2.2.2.2.2.2.2.2.2.2.2.2⟩
set_option maxRecDepth 100000 in
set_option maxHeartbeats 4000000 in
theorem lim_no3 (t k:Value) (a b c d e:Int) (w:World) (hs:Spans w) (h0:spB 1 4 a=true) (h1:spB 0 9 b=true) (h2:spB 1 9 c=false) :
  Calls Tryz.prog 239 #[rv t k a b c d e] w fun e' w'=>e'=.returned (.bool false)∧Kp w w':=by
 have s0:cb7 (w.alloc (.cells #[t,k,.int .i64 a,.int .i64 b,.int .i64 c,.int .i64 d,.int .i64 e] 44)) (w.heap.size) (t) (k) (.int .i64 a) (.int .i64 b) (.int .i64 c) (.int .i64 d) (.int .i64 e) (cb2 (w.alloc (.cells #[t,k,.int .i64 a,.int .i64 b,.int .i64 c,.int .i64 d,.int .i64 e] 44)) 12 (.int .i64 1) (.int .i64 4) (cb2 (w.alloc (.cells #[t,k,.int .i64 a,.int .i64 b,.int .i64 c,.int .i64 d,.int .i64 e] 44)) 13 (.int .i64 0) (.int .i64 9) (cb2 (w.alloc (.cells #[t,k,.int .i64 a,.int .i64 b,.int .i64 c,.int .i64 d,.int .i64 e] 44)) 14 (.int .i64 1) (.int .i64 9) (cb2 (w.alloc (.cells #[t,k,.int .i64 a,.int .i64 b,.int .i64 c,.int .i64 d,.int .i64 e] 44)) 15 (.int .i64 0) (.int .i64 20) (cb2 (w.alloc (.cells #[t,k,.int .i64 a,.int .i64 b,.int .i64 c,.int .i64 d,.int .i64 e] 44)) 16 (.int .i64 1) (.int .i64 30) (Kp w (w.alloc (.cells #[t,k,.int .i64 a,.int .i64 b,.int .i64 c,.int .i64 d,.int .i64 e] 44)))))))) :=
  ⟨by simp [go_sem],by simp [go_sem],by simp [go_sem],by simp [go_sem],by simp [go_sem],by simp [go_sem],by simp [go_sem],((Kp.refl w).alloc _).cell hs.stack.1,((Kp.refl w).alloc _).cell hs.stack.2,((Kp.refl w).alloc _).cell hs.river.1,((Kp.refl w).alloc _).cell hs.river.2,((Kp.refl w).alloc _).cell hs.road.1,((Kp.refl w).alloc _).cell hs.road.2,((Kp.refl w).alloc _).cell hs.supply.1,((Kp.refl w).alloc _).cell hs.supply.2,((Kp.refl w).alloc _).cell hs.turns.1,((Kp.refl w).alloc _).cell hs.turns.2,(Kp.refl w).alloc _⟩
 clear hs
 go_enter Tryz.func239,Tryz.ntmps239
 go_wp2_with fail
 generalize w.alloc (.cells #[t,k,.int .i64 a,.int .i64 b,.int .i64 c,.int .i64 d,.int .i64 e] 44)=W0 at *
 refine(has_any _ _ _ _).mono ?_
 rintro e0 wz0 ⟨rfl,kz0⟩
 have sz0:cb7 wz0 (w.heap.size) (t) (k) (.int .i64 a) (.int .i64 b) (.int .i64 c) (.int .i64 d) (.int .i64 e) (cb2 wz0 12 (.int .i64 1) (.int .i64 4) (cb2 wz0 13 (.int .i64 0) (.int .i64 9) (cb2 wz0 14 (.int .i64 1) (.int .i64 9) (cb2 wz0 15 (.int .i64 0) (.int .i64 20) (cb2 wz0 16 (.int .i64 1) (.int .i64 30) (Kp w wz0)))))):=⟨kz0.cell s0.1,kz0.cell s0.2.1,kz0.cell s0.2.2.1,kz0.cell s0.2.2.2.1,kz0.cell s0.2.2.2.2.1,kz0.cell s0.2.2.2.2.2.1,kz0.cell s0.2.2.2.2.2.2.1,kz0.cell s0.2.2.2.2.2.2.2.1,kz0.cell s0.2.2.2.2.2.2.2.2.1,kz0.cell s0.2.2.2.2.2.2.2.2.2.1,kz0.cell s0.2.2.2.2.2.2.2.2.2.2.1,kz0.cell s0.2.2.2.2.2.2.2.2.2.2.2.1,kz0.cell s0.2.2.2.2.2.2.2.2.2.2.2.2.1,kz0.cell s0.2.2.2.2.2.2.2.2.2.2.2.2.2.1,kz0.cell s0.2.2.2.2.2.2.2.2.2.2.2.2.2.2.1,kz0.cell s0.2.2.2.2.2.2.2.2.2.2.2.2.2.2.2.1,kz0.cell s0.2.2.2.2.2.2.2.2.2.2.2.2.2.2.2.2.1,s0.2.2.2.2.2.2.2.2.2.2.2.2.2.2.2.2.2.trans kz0⟩
 clear s0 kz0
 go_wp2_with fail
 refine(has_any _ _ _ _).mono ?_
 rintro e1 wz1 ⟨rfl,kz1⟩
 have sz1:cb7 wz1 (w.heap.size) (t) (k) (.int .i64 a) (.int .i64 b) (.int .i64 c) (.int .i64 d) (.int .i64 e) (cb2 wz1 12 (.int .i64 1) (.int .i64 4) (cb2 wz1 13 (.int .i64 0) (.int .i64 9) (cb2 wz1 14 (.int .i64 1) (.int .i64 9) (cb2 wz1 15 (.int .i64 0) (.int .i64 20) (cb2 wz1 16 (.int .i64 1) (.int .i64 30) (Kp w wz1)))))):=⟨kz1.cell sz0.1,kz1.cell sz0.2.1,kz1.cell sz0.2.2.1,kz1.cell sz0.2.2.2.1,kz1.cell sz0.2.2.2.2.1,kz1.cell sz0.2.2.2.2.2.1,kz1.cell sz0.2.2.2.2.2.2.1,kz1.cell sz0.2.2.2.2.2.2.2.1,kz1.cell sz0.2.2.2.2.2.2.2.2.1,kz1.cell sz0.2.2.2.2.2.2.2.2.2.1,kz1.cell sz0.2.2.2.2.2.2.2.2.2.2.1,kz1.cell sz0.2.2.2.2.2.2.2.2.2.2.2.1,kz1.cell sz0.2.2.2.2.2.2.2.2.2.2.2.2.1,kz1.cell sz0.2.2.2.2.2.2.2.2.2.2.2.2.2.1,kz1.cell sz0.2.2.2.2.2.2.2.2.2.2.2.2.2.2.1,kz1.cell sz0.2.2.2.2.2.2.2.2.2.2.2.2.2.2.2.1,kz1.cell sz0.2.2.2.2.2.2.2.2.2.2.2.2.2.2.2.2.1,sz0.2.2.2.2.2.2.2.2.2.2.2.2.2.2.2.2.2.trans kz1⟩
 clear sz0 kz1
 go_wp2_with fail
 refine(has_any _ _ _ _).mono ?_
 rintro e2 wz2 ⟨rfl,kz2⟩
 have sz2:cb7 wz2 (w.heap.size) (t) (k) (.int .i64 a) (.int .i64 b) (.int .i64 c) (.int .i64 d) (.int .i64 e) (cb2 wz2 12 (.int .i64 1) (.int .i64 4) (cb2 wz2 13 (.int .i64 0) (.int .i64 9) (cb2 wz2 14 (.int .i64 1) (.int .i64 9) (cb2 wz2 15 (.int .i64 0) (.int .i64 20) (cb2 wz2 16 (.int .i64 1) (.int .i64 30) (Kp w wz2)))))):=⟨kz2.cell sz1.1,kz2.cell sz1.2.1,kz2.cell sz1.2.2.1,kz2.cell sz1.2.2.2.1,kz2.cell sz1.2.2.2.2.1,kz2.cell sz1.2.2.2.2.2.1,kz2.cell sz1.2.2.2.2.2.2.1,kz2.cell sz1.2.2.2.2.2.2.2.1,kz2.cell sz1.2.2.2.2.2.2.2.2.1,kz2.cell sz1.2.2.2.2.2.2.2.2.2.1,kz2.cell sz1.2.2.2.2.2.2.2.2.2.2.1,kz2.cell sz1.2.2.2.2.2.2.2.2.2.2.2.1,kz2.cell sz1.2.2.2.2.2.2.2.2.2.2.2.2.1,kz2.cell sz1.2.2.2.2.2.2.2.2.2.2.2.2.2.1,kz2.cell sz1.2.2.2.2.2.2.2.2.2.2.2.2.2.2.1,kz2.cell sz1.2.2.2.2.2.2.2.2.2.2.2.2.2.2.2.1,kz2.cell sz1.2.2.2.2.2.2.2.2.2.2.2.2.2.2.2.2.1,sz1.2.2.2.2.2.2.2.2.2.2.2.2.2.2.2.2.2.trans kz2⟩
 clear sz1 kz2
 go_wp2_with fail
 go_ret
 exact⟨rfl,sz2.2.2.2.2.2.2.2.2.2.2.2.2.2.2.2.2.2⟩
set_option maxRecDepth 100000 in
set_option maxHeartbeats 4000000 in
theorem lim_no4 (t k:Value) (a b c d e:Int) (w:World) (hs:Spans w) (h0:spB 1 4 a=true) (h1:spB 0 9 b=true) (h2:spB 1 9 c=true) (h3:spB 0 20 d=false) :
  Calls Tryz.prog 239 #[rv t k a b c d e] w fun e' w'=>e'=.returned (.bool false)∧Kp w w':=by
 have s0:cb7 (w.alloc (.cells #[t,k,.int .i64 a,.int .i64 b,.int .i64 c,.int .i64 d,.int .i64 e] 44)) (w.heap.size) (t) (k) (.int .i64 a) (.int .i64 b) (.int .i64 c) (.int .i64 d) (.int .i64 e) (cb2 (w.alloc (.cells #[t,k,.int .i64 a,.int .i64 b,.int .i64 c,.int .i64 d,.int .i64 e] 44)) 12 (.int .i64 1) (.int .i64 4) (cb2 (w.alloc (.cells #[t,k,.int .i64 a,.int .i64 b,.int .i64 c,.int .i64 d,.int .i64 e] 44)) 13 (.int .i64 0) (.int .i64 9) (cb2 (w.alloc (.cells #[t,k,.int .i64 a,.int .i64 b,.int .i64 c,.int .i64 d,.int .i64 e] 44)) 14 (.int .i64 1) (.int .i64 9) (cb2 (w.alloc (.cells #[t,k,.int .i64 a,.int .i64 b,.int .i64 c,.int .i64 d,.int .i64 e] 44)) 15 (.int .i64 0) (.int .i64 20) (cb2 (w.alloc (.cells #[t,k,.int .i64 a,.int .i64 b,.int .i64 c,.int .i64 d,.int .i64 e] 44)) 16 (.int .i64 1) (.int .i64 30) (Kp w (w.alloc (.cells #[t,k,.int .i64 a,.int .i64 b,.int .i64 c,.int .i64 d,.int .i64 e] 44)))))))) :=
  ⟨by simp [go_sem],by simp [go_sem],by simp [go_sem],by simp [go_sem],by simp [go_sem],by simp [go_sem],by simp [go_sem],((Kp.refl w).alloc _).cell hs.stack.1,((Kp.refl w).alloc _).cell hs.stack.2,((Kp.refl w).alloc _).cell hs.river.1,((Kp.refl w).alloc _).cell hs.river.2,((Kp.refl w).alloc _).cell hs.road.1,((Kp.refl w).alloc _).cell hs.road.2,((Kp.refl w).alloc _).cell hs.supply.1,((Kp.refl w).alloc _).cell hs.supply.2,((Kp.refl w).alloc _).cell hs.turns.1,((Kp.refl w).alloc _).cell hs.turns.2,(Kp.refl w).alloc _⟩
 clear hs
 go_enter Tryz.func239,Tryz.ntmps239
 go_wp2_with fail
 generalize w.alloc (.cells #[t,k,.int .i64 a,.int .i64 b,.int .i64 c,.int .i64 d,.int .i64 e] 44)=W0 at *
 refine(has_any _ _ _ _).mono ?_
 rintro e0 wz0 ⟨rfl,kz0⟩
 have sz0:cb7 wz0 (w.heap.size) (t) (k) (.int .i64 a) (.int .i64 b) (.int .i64 c) (.int .i64 d) (.int .i64 e) (cb2 wz0 12 (.int .i64 1) (.int .i64 4) (cb2 wz0 13 (.int .i64 0) (.int .i64 9) (cb2 wz0 14 (.int .i64 1) (.int .i64 9) (cb2 wz0 15 (.int .i64 0) (.int .i64 20) (cb2 wz0 16 (.int .i64 1) (.int .i64 30) (Kp w wz0)))))):=⟨kz0.cell s0.1,kz0.cell s0.2.1,kz0.cell s0.2.2.1,kz0.cell s0.2.2.2.1,kz0.cell s0.2.2.2.2.1,kz0.cell s0.2.2.2.2.2.1,kz0.cell s0.2.2.2.2.2.2.1,kz0.cell s0.2.2.2.2.2.2.2.1,kz0.cell s0.2.2.2.2.2.2.2.2.1,kz0.cell s0.2.2.2.2.2.2.2.2.2.1,kz0.cell s0.2.2.2.2.2.2.2.2.2.2.1,kz0.cell s0.2.2.2.2.2.2.2.2.2.2.2.1,kz0.cell s0.2.2.2.2.2.2.2.2.2.2.2.2.1,kz0.cell s0.2.2.2.2.2.2.2.2.2.2.2.2.2.1,kz0.cell s0.2.2.2.2.2.2.2.2.2.2.2.2.2.2.1,kz0.cell s0.2.2.2.2.2.2.2.2.2.2.2.2.2.2.2.1,kz0.cell s0.2.2.2.2.2.2.2.2.2.2.2.2.2.2.2.2.1,s0.2.2.2.2.2.2.2.2.2.2.2.2.2.2.2.2.2.trans kz0⟩
 clear s0 kz0
 go_wp2_with fail
 refine(has_any _ _ _ _).mono ?_
 rintro e1 wz1 ⟨rfl,kz1⟩
 have sz1:cb7 wz1 (w.heap.size) (t) (k) (.int .i64 a) (.int .i64 b) (.int .i64 c) (.int .i64 d) (.int .i64 e) (cb2 wz1 12 (.int .i64 1) (.int .i64 4) (cb2 wz1 13 (.int .i64 0) (.int .i64 9) (cb2 wz1 14 (.int .i64 1) (.int .i64 9) (cb2 wz1 15 (.int .i64 0) (.int .i64 20) (cb2 wz1 16 (.int .i64 1) (.int .i64 30) (Kp w wz1)))))):=⟨kz1.cell sz0.1,kz1.cell sz0.2.1,kz1.cell sz0.2.2.1,kz1.cell sz0.2.2.2.1,kz1.cell sz0.2.2.2.2.1,kz1.cell sz0.2.2.2.2.2.1,kz1.cell sz0.2.2.2.2.2.2.1,kz1.cell sz0.2.2.2.2.2.2.2.1,kz1.cell sz0.2.2.2.2.2.2.2.2.1,kz1.cell sz0.2.2.2.2.2.2.2.2.2.1,kz1.cell sz0.2.2.2.2.2.2.2.2.2.2.1,kz1.cell sz0.2.2.2.2.2.2.2.2.2.2.2.1,kz1.cell sz0.2.2.2.2.2.2.2.2.2.2.2.2.1,kz1.cell sz0.2.2.2.2.2.2.2.2.2.2.2.2.2.1,kz1.cell sz0.2.2.2.2.2.2.2.2.2.2.2.2.2.2.1,kz1.cell sz0.2.2.2.2.2.2.2.2.2.2.2.2.2.2.2.1,kz1.cell sz0.2.2.2.2.2.2.2.2.2.2.2.2.2.2.2.2.1,sz0.2.2.2.2.2.2.2.2.2.2.2.2.2.2.2.2.2.trans kz1⟩
 clear sz0 kz1
 go_wp2_with fail
 refine(has_any _ _ _ _).mono ?_
 rintro e2 wz2 ⟨rfl,kz2⟩
 have sz2:cb7 wz2 (w.heap.size) (t) (k) (.int .i64 a) (.int .i64 b) (.int .i64 c) (.int .i64 d) (.int .i64 e) (cb2 wz2 12 (.int .i64 1) (.int .i64 4) (cb2 wz2 13 (.int .i64 0) (.int .i64 9) (cb2 wz2 14 (.int .i64 1) (.int .i64 9) (cb2 wz2 15 (.int .i64 0) (.int .i64 20) (cb2 wz2 16 (.int .i64 1) (.int .i64 30) (Kp w wz2)))))):=⟨kz2.cell sz1.1,kz2.cell sz1.2.1,kz2.cell sz1.2.2.1,kz2.cell sz1.2.2.2.1,kz2.cell sz1.2.2.2.2.1,kz2.cell sz1.2.2.2.2.2.1,kz2.cell sz1.2.2.2.2.2.2.1,kz2.cell sz1.2.2.2.2.2.2.2.1,kz2.cell sz1.2.2.2.2.2.2.2.2.1,kz2.cell sz1.2.2.2.2.2.2.2.2.2.1,kz2.cell sz1.2.2.2.2.2.2.2.2.2.2.1,kz2.cell sz1.2.2.2.2.2.2.2.2.2.2.2.1,kz2.cell sz1.2.2.2.2.2.2.2.2.2.2.2.2.1,kz2.cell sz1.2.2.2.2.2.2.2.2.2.2.2.2.2.1,kz2.cell sz1.2.2.2.2.2.2.2.2.2.2.2.2.2.2.1,kz2.cell sz1.2.2.2.2.2.2.2.2.2.2.2.2.2.2.2.1,kz2.cell sz1.2.2.2.2.2.2.2.2.2.2.2.2.2.2.2.2.1,sz1.2.2.2.2.2.2.2.2.2.2.2.2.2.2.2.2.2.trans kz2⟩
 clear sz1 kz2
 go_wp2_with fail
 refine(has_any _ _ _ _).mono ?_
 rintro e3 wz3 ⟨rfl,kz3⟩
 have sz3:cb7 wz3 (w.heap.size) (t) (k) (.int .i64 a) (.int .i64 b) (.int .i64 c) (.int .i64 d) (.int .i64 e) (cb2 wz3 12 (.int .i64 1) (.int .i64 4) (cb2 wz3 13 (.int .i64 0) (.int .i64 9) (cb2 wz3 14 (.int .i64 1) (.int .i64 9) (cb2 wz3 15 (.int .i64 0) (.int .i64 20) (cb2 wz3 16 (.int .i64 1) (.int .i64 30) (Kp w wz3)))))):=⟨kz3.cell sz2.1,kz3.cell sz2.2.1,kz3.cell sz2.2.2.1,kz3.cell sz2.2.2.2.1,kz3.cell sz2.2.2.2.2.1,kz3.cell sz2.2.2.2.2.2.1,kz3.cell sz2.2.2.2.2.2.2.1,kz3.cell sz2.2.2.2.2.2.2.2.1,kz3.cell sz2.2.2.2.2.2.2.2.2.1,kz3.cell sz2.2.2.2.2.2.2.2.2.2.1,kz3.cell sz2.2.2.2.2.2.2.2.2.2.2.1,kz3.cell sz2.2.2.2.2.2.2.2.2.2.2.2.1,kz3.cell sz2.2.2.2.2.2.2.2.2.2.2.2.2.1,kz3.cell sz2.2.2.2.2.2.2.2.2.2.2.2.2.2.1,kz3.cell sz2.2.2.2.2.2.2.2.2.2.2.2.2.2.2.1,kz3.cell sz2.2.2.2.2.2.2.2.2.2.2.2.2.2.2.2.1,kz3.cell sz2.2.2.2.2.2.2.2.2.2.2.2.2.2.2.2.2.1,sz2.2.2.2.2.2.2.2.2.2.2.2.2.2.2.2.2.2.trans kz3⟩
 clear sz2 kz3
 go_wp2_with fail
 go_ret
 exact⟨rfl,sz3.2.2.2.2.2.2.2.2.2.2.2.2.2.2.2.2.2⟩
set_option maxRecDepth 100000 in
set_option maxHeartbeats 4000000 in
theorem lim_yes (t k:Value) (a b c d e:Int) (w:World) (hs:Spans w) (h0:spB 1 4 a=true) (h1:spB 0 9 b=true) (h2:spB 1 9 c=true) (h3:spB 0 20 d=true) :
  Calls Tryz.prog 239 #[rv t k a b c d e] w fun e' w'=>e'=.returned (.bool (spB 1 30 e))∧Kp w w':=by
 have s0:cb7 (w.alloc (.cells #[t,k,.int .i64 a,.int .i64 b,.int .i64 c,.int .i64 d,.int .i64 e] 44)) (w.heap.size) (t) (k) (.int .i64 a) (.int .i64 b) (.int .i64 c) (.int .i64 d) (.int .i64 e) (cb2 (w.alloc (.cells #[t,k,.int .i64 a,.int .i64 b,.int .i64 c,.int .i64 d,.int .i64 e] 44)) 12 (.int .i64 1) (.int .i64 4) (cb2 (w.alloc (.cells #[t,k,.int .i64 a,.int .i64 b,.int .i64 c,.int .i64 d,.int .i64 e] 44)) 13 (.int .i64 0) (.int .i64 9) (cb2 (w.alloc (.cells #[t,k,.int .i64 a,.int .i64 b,.int .i64 c,.int .i64 d,.int .i64 e] 44)) 14 (.int .i64 1) (.int .i64 9) (cb2 (w.alloc (.cells #[t,k,.int .i64 a,.int .i64 b,.int .i64 c,.int .i64 d,.int .i64 e] 44)) 15 (.int .i64 0) (.int .i64 20) (cb2 (w.alloc (.cells #[t,k,.int .i64 a,.int .i64 b,.int .i64 c,.int .i64 d,.int .i64 e] 44)) 16 (.int .i64 1) (.int .i64 30) (Kp w (w.alloc (.cells #[t,k,.int .i64 a,.int .i64 b,.int .i64 c,.int .i64 d,.int .i64 e] 44)))))))) :=
  ⟨by simp [go_sem],by simp [go_sem],by simp [go_sem],by simp [go_sem],by simp [go_sem],by simp [go_sem],by simp [go_sem],((Kp.refl w).alloc _).cell hs.stack.1,((Kp.refl w).alloc _).cell hs.stack.2,((Kp.refl w).alloc _).cell hs.river.1,((Kp.refl w).alloc _).cell hs.river.2,((Kp.refl w).alloc _).cell hs.road.1,((Kp.refl w).alloc _).cell hs.road.2,((Kp.refl w).alloc _).cell hs.supply.1,((Kp.refl w).alloc _).cell hs.supply.2,((Kp.refl w).alloc _).cell hs.turns.1,((Kp.refl w).alloc _).cell hs.turns.2,(Kp.refl w).alloc _⟩
 clear hs
 go_enter Tryz.func239,Tryz.ntmps239
 go_wp2_with fail
 generalize w.alloc (.cells #[t,k,.int .i64 a,.int .i64 b,.int .i64 c,.int .i64 d,.int .i64 e] 44)=W0 at *
 refine(has_any _ _ _ _).mono ?_
 rintro e0 wz0 ⟨rfl,kz0⟩
 have sz0:cb7 wz0 (w.heap.size) (t) (k) (.int .i64 a) (.int .i64 b) (.int .i64 c) (.int .i64 d) (.int .i64 e) (cb2 wz0 12 (.int .i64 1) (.int .i64 4) (cb2 wz0 13 (.int .i64 0) (.int .i64 9) (cb2 wz0 14 (.int .i64 1) (.int .i64 9) (cb2 wz0 15 (.int .i64 0) (.int .i64 20) (cb2 wz0 16 (.int .i64 1) (.int .i64 30) (Kp w wz0)))))):=⟨kz0.cell s0.1,kz0.cell s0.2.1,kz0.cell s0.2.2.1,kz0.cell s0.2.2.2.1,kz0.cell s0.2.2.2.2.1,kz0.cell s0.2.2.2.2.2.1,kz0.cell s0.2.2.2.2.2.2.1,kz0.cell s0.2.2.2.2.2.2.2.1,kz0.cell s0.2.2.2.2.2.2.2.2.1,kz0.cell s0.2.2.2.2.2.2.2.2.2.1,kz0.cell s0.2.2.2.2.2.2.2.2.2.2.1,kz0.cell s0.2.2.2.2.2.2.2.2.2.2.2.1,kz0.cell s0.2.2.2.2.2.2.2.2.2.2.2.2.1,kz0.cell s0.2.2.2.2.2.2.2.2.2.2.2.2.2.1,kz0.cell s0.2.2.2.2.2.2.2.2.2.2.2.2.2.2.1,kz0.cell s0.2.2.2.2.2.2.2.2.2.2.2.2.2.2.2.1,kz0.cell s0.2.2.2.2.2.2.2.2.2.2.2.2.2.2.2.2.1,s0.2.2.2.2.2.2.2.2.2.2.2.2.2.2.2.2.2.trans kz0⟩
 clear s0 kz0
 go_wp2_with fail
 refine(has_any _ _ _ _).mono ?_
 rintro e1 wz1 ⟨rfl,kz1⟩
 have sz1:cb7 wz1 (w.heap.size) (t) (k) (.int .i64 a) (.int .i64 b) (.int .i64 c) (.int .i64 d) (.int .i64 e) (cb2 wz1 12 (.int .i64 1) (.int .i64 4) (cb2 wz1 13 (.int .i64 0) (.int .i64 9) (cb2 wz1 14 (.int .i64 1) (.int .i64 9) (cb2 wz1 15 (.int .i64 0) (.int .i64 20) (cb2 wz1 16 (.int .i64 1) (.int .i64 30) (Kp w wz1)))))):=⟨kz1.cell sz0.1,kz1.cell sz0.2.1,kz1.cell sz0.2.2.1,kz1.cell sz0.2.2.2.1,kz1.cell sz0.2.2.2.2.1,kz1.cell sz0.2.2.2.2.2.1,kz1.cell sz0.2.2.2.2.2.2.1,kz1.cell sz0.2.2.2.2.2.2.2.1,kz1.cell sz0.2.2.2.2.2.2.2.2.1,kz1.cell sz0.2.2.2.2.2.2.2.2.2.1,kz1.cell sz0.2.2.2.2.2.2.2.2.2.2.1,kz1.cell sz0.2.2.2.2.2.2.2.2.2.2.2.1,kz1.cell sz0.2.2.2.2.2.2.2.2.2.2.2.2.1,kz1.cell sz0.2.2.2.2.2.2.2.2.2.2.2.2.2.1,kz1.cell sz0.2.2.2.2.2.2.2.2.2.2.2.2.2.2.1,kz1.cell sz0.2.2.2.2.2.2.2.2.2.2.2.2.2.2.2.1,kz1.cell sz0.2.2.2.2.2.2.2.2.2.2.2.2.2.2.2.2.1,sz0.2.2.2.2.2.2.2.2.2.2.2.2.2.2.2.2.2.trans kz1⟩
 clear sz0 kz1
 go_wp2_with fail
 refine(has_any _ _ _ _).mono ?_
 rintro e2 wz2 ⟨rfl,kz2⟩
 have sz2:cb7 wz2 (w.heap.size) (t) (k) (.int .i64 a) (.int .i64 b) (.int .i64 c) (.int .i64 d) (.int .i64 e) (cb2 wz2 12 (.int .i64 1) (.int .i64 4) (cb2 wz2 13 (.int .i64 0) (.int .i64 9) (cb2 wz2 14 (.int .i64 1) (.int .i64 9) (cb2 wz2 15 (.int .i64 0) (.int .i64 20) (cb2 wz2 16 (.int .i64 1) (.int .i64 30) (Kp w wz2)))))):=⟨kz2.cell sz1.1,kz2.cell sz1.2.1,kz2.cell sz1.2.2.1,kz2.cell sz1.2.2.2.1,kz2.cell sz1.2.2.2.2.1,kz2.cell sz1.2.2.2.2.2.1,kz2.cell sz1.2.2.2.2.2.2.1,kz2.cell sz1.2.2.2.2.2.2.2.1,kz2.cell sz1.2.2.2.2.2.2.2.2.1,kz2.cell sz1.2.2.2.2.2.2.2.2.2.1,kz2.cell sz1.2.2.2.2.2.2.2.2.2.2.1,kz2.cell sz1.2.2.2.2.2.2.2.2.2.2.2.1,kz2.cell sz1.2.2.2.2.2.2.2.2.2.2.2.2.1,kz2.cell sz1.2.2.2.2.2.2.2.2.2.2.2.2.2.1,kz2.cell sz1.2.2.2.2.2.2.2.2.2.2.2.2.2.2.1,kz2.cell sz1.2.2.2.2.2.2.2.2.2.2.2.2.2.2.2.1,kz2.cell sz1.2.2.2.2.2.2.2.2.2.2.2.2.2.2.2.2.1,sz1.2.2.2.2.2.2.2.2.2.2.2.2.2.2.2.2.2.trans kz2⟩
 clear sz1 kz2
 go_wp2_with fail
 refine(has_any _ _ _ _).mono ?_
 rintro e3 wz3 ⟨rfl,kz3⟩
 have sz3:cb7 wz3 (w.heap.size) (t) (k) (.int .i64 a) (.int .i64 b) (.int .i64 c) (.int .i64 d) (.int .i64 e) (cb2 wz3 12 (.int .i64 1) (.int .i64 4) (cb2 wz3 13 (.int .i64 0) (.int .i64 9) (cb2 wz3 14 (.int .i64 1) (.int .i64 9) (cb2 wz3 15 (.int .i64 0) (.int .i64 20) (cb2 wz3 16 (.int .i64 1) (.int .i64 30) (Kp w wz3)))))):=⟨kz3.cell sz2.1,kz3.cell sz2.2.1,kz3.cell sz2.2.2.1,kz3.cell sz2.2.2.2.1,kz3.cell sz2.2.2.2.2.1,kz3.cell sz2.2.2.2.2.2.1,kz3.cell sz2.2.2.2.2.2.2.1,kz3.cell sz2.2.2.2.2.2.2.2.1,kz3.cell sz2.2.2.2.2.2.2.2.2.1,kz3.cell sz2.2.2.2.2.2.2.2.2.2.1,kz3.cell sz2.2.2.2.2.2.2.2.2.2.2.1,kz3.cell sz2.2.2.2.2.2.2.2.2.2.2.2.1,kz3.cell sz2.2.2.2.2.2.2.2.2.2.2.2.2.1,kz3.cell sz2.2.2.2.2.2.2.2.2.2.2.2.2.2.1,kz3.cell sz2.2.2.2.2.2.2.2.2.2.2.2.2.2.2.1,kz3.cell sz2.2.2.2.2.2.2.2.2.2.2.2.2.2.2.2.1,kz3.cell sz2.2.2.2.2.2.2.2.2.2.2.2.2.2.2.2.2.1,sz2.2.2.2.2.2.2.2.2.2.2.2.2.2.2.2.2.2.trans kz3⟩
 clear sz2 kz3
 go_wp2_with fail
 refine(has_any _ _ _ _).mono ?_
 rintro e4 wz4 ⟨rfl,kz4⟩
 have sz4:cb7 wz4 (w.heap.size) (t) (k) (.int .i64 a) (.int .i64 b) (.int .i64 c) (.int .i64 d) (.int .i64 e) (cb2 wz4 12 (.int .i64 1) (.int .i64 4) (cb2 wz4 13 (.int .i64 0) (.int .i64 9) (cb2 wz4 14 (.int .i64 1) (.int .i64 9) (cb2 wz4 15 (.int .i64 0) (.int .i64 20) (cb2 wz4 16 (.int .i64 1) (.int .i64 30) (Kp w wz4)))))):=⟨kz4.cell sz3.1,kz4.cell sz3.2.1,kz4.cell sz3.2.2.1,kz4.cell sz3.2.2.2.1,kz4.cell sz3.2.2.2.2.1,kz4.cell sz3.2.2.2.2.2.1,kz4.cell sz3.2.2.2.2.2.2.1,kz4.cell sz3.2.2.2.2.2.2.2.1,kz4.cell sz3.2.2.2.2.2.2.2.2.1,kz4.cell sz3.2.2.2.2.2.2.2.2.2.1,kz4.cell sz3.2.2.2.2.2.2.2.2.2.2.1,kz4.cell sz3.2.2.2.2.2.2.2.2.2.2.2.1,kz4.cell sz3.2.2.2.2.2.2.2.2.2.2.2.2.1,kz4.cell sz3.2.2.2.2.2.2.2.2.2.2.2.2.2.1,kz4.cell sz3.2.2.2.2.2.2.2.2.2.2.2.2.2.2.1,kz4.cell sz3.2.2.2.2.2.2.2.2.2.2.2.2.2.2.2.1,kz4.cell sz3.2.2.2.2.2.2.2.2.2.2.2.2.2.2.2.2.1,sz3.2.2.2.2.2.2.2.2.2.2.2.2.2.2.2.2.2.trans kz4⟩
 clear sz3 kz4
 go_wp2_with fail
 go_ret
 exact⟨rfl,sz4.2.2.2.2.2.2.2.2.2.2.2.2.2.2.2.2.2⟩
abbrev kv (n:ByteArray) (a b c:Int) (z:Bool) (v:Int):Value:=.agg #[.string n,.int .i64 a,.int .i64 b,.int .i64 c,.bool z,.int .i64 v]
set_option maxRecDepth 100000 in
set_option maxHeartbeats 4000000 in
theorem kn_no1 (n:ByteArray) (a b c:Int) (z:Bool) (v:Int) (w:World) (hs:Spans w) (h0:spB 1 9 a=false) :
  Calls Tryz.prog 241 #[kv n a b c z v] w fun e' w'=>e'=.returned (.bool false)∧Kp w w':=by
 have s0:cb6 (w.alloc (.cells #[.string n,.int .i64 a,.int .i64 b,.int .i64 c,.bool z,.int .i64 v] 176)) (w.heap.size) (.string n) (.int .i64 a) (.int .i64 b) (.int .i64 c) (.bool z) (.int .i64 v) (cb2 (w.alloc (.cells #[.string n,.int .i64 a,.int .i64 b,.int .i64 c,.bool z,.int .i64 v] 176)) 20 (.int .i64 1) (.int .i64 9) (cb2 (w.alloc (.cells #[.string n,.int .i64 a,.int .i64 b,.int .i64 c,.bool z,.int .i64 v] 176)) 21 (.int .i64 0) (.int .i64 9) (cb2 (w.alloc (.cells #[.string n,.int .i64 a,.int .i64 b,.int .i64 c,.bool z,.int .i64 v] 176)) 22 (.int .i64 1) (.int .i64 4) (cb2 (w.alloc (.cells #[.string n,.int .i64 a,.int .i64 b,.int .i64 c,.bool z,.int .i64 v] 176)) 23 (.int .i64 0) (.int .i64 4) (Kp w (w.alloc (.cells #[.string n,.int .i64 a,.int .i64 b,.int .i64 c,.bool z,.int .i64 v] 176))))))) :=
  ⟨by simp [go_sem],by simp [go_sem],by simp [go_sem],by simp [go_sem],by simp [go_sem],by simp [go_sem],((Kp.refl w).alloc _).cell hs.strength.1,((Kp.refl w).alloc _).cell hs.strength.2,((Kp.refl w).alloc _).cell hs.moves.1,((Kp.refl w).alloc _).cell hs.moves.2,((Kp.refl w).alloc _).cell hs.steps.1,((Kp.refl w).alloc _).cell hs.steps.2,((Kp.refl w).alloc _).cell hs.view.1,((Kp.refl w).alloc _).cell hs.view.2,(Kp.refl w).alloc _⟩
 clear hs
 go_enter Tryz.func241,Tryz.ntmps241
 go_wp2_with fail
 generalize w.alloc (.cells #[.string n,.int .i64 a,.int .i64 b,.int .i64 c,.bool z,.int .i64 v] 176)=W0 at *
 refine(has_any _ _ _ _).mono ?_
 rintro e0 wz0 ⟨rfl,kz0⟩
 have sz0:cb6 wz0 (w.heap.size) (.string n) (.int .i64 a) (.int .i64 b) (.int .i64 c) (.bool z) (.int .i64 v) (cb2 wz0 20 (.int .i64 1) (.int .i64 9) (cb2 wz0 21 (.int .i64 0) (.int .i64 9) (cb2 wz0 22 (.int .i64 1) (.int .i64 4) (cb2 wz0 23 (.int .i64 0) (.int .i64 4) (Kp w wz0))))):=⟨kz0.cell s0.1,kz0.cell s0.2.1,kz0.cell s0.2.2.1,kz0.cell s0.2.2.2.1,kz0.cell s0.2.2.2.2.1,kz0.cell s0.2.2.2.2.2.1,kz0.cell s0.2.2.2.2.2.2.1,kz0.cell s0.2.2.2.2.2.2.2.1,kz0.cell s0.2.2.2.2.2.2.2.2.1,kz0.cell s0.2.2.2.2.2.2.2.2.2.1,kz0.cell s0.2.2.2.2.2.2.2.2.2.2.1,kz0.cell s0.2.2.2.2.2.2.2.2.2.2.2.1,kz0.cell s0.2.2.2.2.2.2.2.2.2.2.2.2.1,kz0.cell s0.2.2.2.2.2.2.2.2.2.2.2.2.2.1,s0.2.2.2.2.2.2.2.2.2.2.2.2.2.2.trans kz0⟩
 clear s0 kz0
 go_wp2_with fail
 go_ret
 exact⟨rfl,sz0.2.2.2.2.2.2.2.2.2.2.2.2.2.2⟩
set_option maxRecDepth 100000 in
set_option maxHeartbeats 4000000 in
theorem kn_no2 (n:ByteArray) (a b c:Int) (z:Bool) (v:Int) (w:World) (hs:Spans w) (h0:spB 1 9 a=true) (h1:spB 0 9 b=false) :
  Calls Tryz.prog 241 #[kv n a b c z v] w fun e' w'=>e'=.returned (.bool false)∧Kp w w':=by
 have s0:cb6 (w.alloc (.cells #[.string n,.int .i64 a,.int .i64 b,.int .i64 c,.bool z,.int .i64 v] 176)) (w.heap.size) (.string n) (.int .i64 a) (.int .i64 b) (.int .i64 c) (.bool z) (.int .i64 v) (cb2 (w.alloc (.cells #[.string n,.int .i64 a,.int .i64 b,.int .i64 c,.bool z,.int .i64 v] 176)) 20 (.int .i64 1) (.int .i64 9) (cb2 (w.alloc (.cells #[.string n,.int .i64 a,.int .i64 b,.int .i64 c,.bool z,.int .i64 v] 176)) 21 (.int .i64 0) (.int .i64 9) (cb2 (w.alloc (.cells #[.string n,.int .i64 a,.int .i64 b,.int .i64 c,.bool z,.int .i64 v] 176)) 22 (.int .i64 1) (.int .i64 4) (cb2 (w.alloc (.cells #[.string n,.int .i64 a,.int .i64 b,.int .i64 c,.bool z,.int .i64 v] 176)) 23 (.int .i64 0) (.int .i64 4) (Kp w (w.alloc (.cells #[.string n,.int .i64 a,.int .i64 b,.int .i64 c,.bool z,.int .i64 v] 176))))))) :=
  ⟨by simp [go_sem],by simp [go_sem],by simp [go_sem],by simp [go_sem],by simp [go_sem],by simp [go_sem],((Kp.refl w).alloc _).cell hs.strength.1,((Kp.refl w).alloc _).cell hs.strength.2,((Kp.refl w).alloc _).cell hs.moves.1,((Kp.refl w).alloc _).cell hs.moves.2,((Kp.refl w).alloc _).cell hs.steps.1,((Kp.refl w).alloc _).cell hs.steps.2,((Kp.refl w).alloc _).cell hs.view.1,((Kp.refl w).alloc _).cell hs.view.2,(Kp.refl w).alloc _⟩
 clear hs
 go_enter Tryz.func241,Tryz.ntmps241
 go_wp2_with fail
 generalize w.alloc (.cells #[.string n,.int .i64 a,.int .i64 b,.int .i64 c,.bool z,.int .i64 v] 176)=W0 at *
 refine(has_any _ _ _ _).mono ?_
 rintro e0 wz0 ⟨rfl,kz0⟩
 have sz0:cb6 wz0 (w.heap.size) (.string n) (.int .i64 a) (.int .i64 b) (.int .i64 c) (.bool z) (.int .i64 v) (cb2 wz0 20 (.int .i64 1) (.int .i64 9) (cb2 wz0 21 (.int .i64 0) (.int .i64 9) (cb2 wz0 22 (.int .i64 1) (.int .i64 4) (cb2 wz0 23 (.int .i64 0) (.int .i64 4) (Kp w wz0))))):=⟨kz0.cell s0.1,kz0.cell s0.2.1,kz0.cell s0.2.2.1,kz0.cell s0.2.2.2.1,kz0.cell s0.2.2.2.2.1,kz0.cell s0.2.2.2.2.2.1,kz0.cell s0.2.2.2.2.2.2.1,kz0.cell s0.2.2.2.2.2.2.2.1,kz0.cell s0.2.2.2.2.2.2.2.2.1,kz0.cell s0.2.2.2.2.2.2.2.2.2.1,kz0.cell s0.2.2.2.2.2.2.2.2.2.2.1,kz0.cell s0.2.2.2.2.2.2.2.2.2.2.2.1,kz0.cell s0.2.2.2.2.2.2.2.2.2.2.2.2.1,kz0.cell s0.2.2.2.2.2.2.2.2.2.2.2.2.2.1,s0.2.2.2.2.2.2.2.2.2.2.2.2.2.2.trans kz0⟩
 clear s0 kz0
 go_wp2_with fail
 refine(has_any _ _ _ _).mono ?_
 rintro e1 wz1 ⟨rfl,kz1⟩
 have sz1:cb6 wz1 (w.heap.size) (.string n) (.int .i64 a) (.int .i64 b) (.int .i64 c) (.bool z) (.int .i64 v) (cb2 wz1 20 (.int .i64 1) (.int .i64 9) (cb2 wz1 21 (.int .i64 0) (.int .i64 9) (cb2 wz1 22 (.int .i64 1) (.int .i64 4) (cb2 wz1 23 (.int .i64 0) (.int .i64 4) (Kp w wz1))))):=⟨kz1.cell sz0.1,kz1.cell sz0.2.1,kz1.cell sz0.2.2.1,kz1.cell sz0.2.2.2.1,kz1.cell sz0.2.2.2.2.1,kz1.cell sz0.2.2.2.2.2.1,kz1.cell sz0.2.2.2.2.2.2.1,kz1.cell sz0.2.2.2.2.2.2.2.1,kz1.cell sz0.2.2.2.2.2.2.2.2.1,kz1.cell sz0.2.2.2.2.2.2.2.2.2.1,kz1.cell sz0.2.2.2.2.2.2.2.2.2.2.1,kz1.cell sz0.2.2.2.2.2.2.2.2.2.2.2.1,kz1.cell sz0.2.2.2.2.2.2.2.2.2.2.2.2.1,kz1.cell sz0.2.2.2.2.2.2.2.2.2.2.2.2.2.1,sz0.2.2.2.2.2.2.2.2.2.2.2.2.2.2.trans kz1⟩
 clear sz0 kz1
 go_wp2_with fail
 go_ret
 exact⟨rfl,sz1.2.2.2.2.2.2.2.2.2.2.2.2.2.2⟩
set_option maxRecDepth 100000 in
set_option maxHeartbeats 4000000 in
theorem kn_no3 (n:ByteArray) (a b c:Int) (z:Bool) (v:Int) (w:World) (hs:Spans w) (h0:spB 1 9 a=true) (h1:spB 0 9 b=true) (h2:spB 1 4 c=false) :
  Calls Tryz.prog 241 #[kv n a b c z v] w fun e' w'=>e'=.returned (.bool false)∧Kp w w':=by
 have s0:cb6 (w.alloc (.cells #[.string n,.int .i64 a,.int .i64 b,.int .i64 c,.bool z,.int .i64 v] 176)) (w.heap.size) (.string n) (.int .i64 a) (.int .i64 b) (.int .i64 c) (.bool z) (.int .i64 v) (cb2 (w.alloc (.cells #[.string n,.int .i64 a,.int .i64 b,.int .i64 c,.bool z,.int .i64 v] 176)) 20 (.int .i64 1) (.int .i64 9) (cb2 (w.alloc (.cells #[.string n,.int .i64 a,.int .i64 b,.int .i64 c,.bool z,.int .i64 v] 176)) 21 (.int .i64 0) (.int .i64 9) (cb2 (w.alloc (.cells #[.string n,.int .i64 a,.int .i64 b,.int .i64 c,.bool z,.int .i64 v] 176)) 22 (.int .i64 1) (.int .i64 4) (cb2 (w.alloc (.cells #[.string n,.int .i64 a,.int .i64 b,.int .i64 c,.bool z,.int .i64 v] 176)) 23 (.int .i64 0) (.int .i64 4) (Kp w (w.alloc (.cells #[.string n,.int .i64 a,.int .i64 b,.int .i64 c,.bool z,.int .i64 v] 176))))))) :=
  ⟨by simp [go_sem],by simp [go_sem],by simp [go_sem],by simp [go_sem],by simp [go_sem],by simp [go_sem],((Kp.refl w).alloc _).cell hs.strength.1,((Kp.refl w).alloc _).cell hs.strength.2,((Kp.refl w).alloc _).cell hs.moves.1,((Kp.refl w).alloc _).cell hs.moves.2,((Kp.refl w).alloc _).cell hs.steps.1,((Kp.refl w).alloc _).cell hs.steps.2,((Kp.refl w).alloc _).cell hs.view.1,((Kp.refl w).alloc _).cell hs.view.2,(Kp.refl w).alloc _⟩
 clear hs
 go_enter Tryz.func241,Tryz.ntmps241
 go_wp2_with fail
 generalize w.alloc (.cells #[.string n,.int .i64 a,.int .i64 b,.int .i64 c,.bool z,.int .i64 v] 176)=W0 at *
 refine(has_any _ _ _ _).mono ?_
 rintro e0 wz0 ⟨rfl,kz0⟩
 have sz0:cb6 wz0 (w.heap.size) (.string n) (.int .i64 a) (.int .i64 b) (.int .i64 c) (.bool z) (.int .i64 v) (cb2 wz0 20 (.int .i64 1) (.int .i64 9) (cb2 wz0 21 (.int .i64 0) (.int .i64 9) (cb2 wz0 22 (.int .i64 1) (.int .i64 4) (cb2 wz0 23 (.int .i64 0) (.int .i64 4) (Kp w wz0))))):=⟨kz0.cell s0.1,kz0.cell s0.2.1,kz0.cell s0.2.2.1,kz0.cell s0.2.2.2.1,kz0.cell s0.2.2.2.2.1,kz0.cell s0.2.2.2.2.2.1,kz0.cell s0.2.2.2.2.2.2.1,kz0.cell s0.2.2.2.2.2.2.2.1,kz0.cell s0.2.2.2.2.2.2.2.2.1,kz0.cell s0.2.2.2.2.2.2.2.2.2.1,kz0.cell s0.2.2.2.2.2.2.2.2.2.2.1,kz0.cell s0.2.2.2.2.2.2.2.2.2.2.2.1,kz0.cell s0.2.2.2.2.2.2.2.2.2.2.2.2.1,kz0.cell s0.2.2.2.2.2.2.2.2.2.2.2.2.2.1,s0.2.2.2.2.2.2.2.2.2.2.2.2.2.2.trans kz0⟩
 clear s0 kz0
 go_wp2_with fail
 refine(has_any _ _ _ _).mono ?_
 rintro e1 wz1 ⟨rfl,kz1⟩
 have sz1:cb6 wz1 (w.heap.size) (.string n) (.int .i64 a) (.int .i64 b) (.int .i64 c) (.bool z) (.int .i64 v) (cb2 wz1 20 (.int .i64 1) (.int .i64 9) (cb2 wz1 21 (.int .i64 0) (.int .i64 9) (cb2 wz1 22 (.int .i64 1) (.int .i64 4) (cb2 wz1 23 (.int .i64 0) (.int .i64 4) (Kp w wz1))))):=⟨kz1.cell sz0.1,kz1.cell sz0.2.1,kz1.cell sz0.2.2.1,kz1.cell sz0.2.2.2.1,kz1.cell sz0.2.2.2.2.1,kz1.cell sz0.2.2.2.2.2.1,kz1.cell sz0.2.2.2.2.2.2.1,kz1.cell sz0.2.2.2.2.2.2.2.1,kz1.cell sz0.2.2.2.2.2.2.2.2.1,kz1.cell sz0.2.2.2.2.2.2.2.2.2.1,kz1.cell sz0.2.2.2.2.2.2.2.2.2.2.1,kz1.cell sz0.2.2.2.2.2.2.2.2.2.2.2.1,kz1.cell sz0.2.2.2.2.2.2.2.2.2.2.2.2.1,kz1.cell sz0.2.2.2.2.2.2.2.2.2.2.2.2.2.1,sz0.2.2.2.2.2.2.2.2.2.2.2.2.2.2.trans kz1⟩
 clear sz0 kz1
 go_wp2_with fail
 refine(has_any _ _ _ _).mono ?_
 rintro e2 wz2 ⟨rfl,kz2⟩
 have sz2:cb6 wz2 (w.heap.size) (.string n) (.int .i64 a) (.int .i64 b) (.int .i64 c) (.bool z) (.int .i64 v) (cb2 wz2 20 (.int .i64 1) (.int .i64 9) (cb2 wz2 21 (.int .i64 0) (.int .i64 9) (cb2 wz2 22 (.int .i64 1) (.int .i64 4) (cb2 wz2 23 (.int .i64 0) (.int .i64 4) (Kp w wz2))))):=⟨kz2.cell sz1.1,kz2.cell sz1.2.1,kz2.cell sz1.2.2.1,kz2.cell sz1.2.2.2.1,kz2.cell sz1.2.2.2.2.1,kz2.cell sz1.2.2.2.2.2.1,kz2.cell sz1.2.2.2.2.2.2.1,kz2.cell sz1.2.2.2.2.2.2.2.1,kz2.cell sz1.2.2.2.2.2.2.2.2.1,kz2.cell sz1.2.2.2.2.2.2.2.2.2.1,kz2.cell sz1.2.2.2.2.2.2.2.2.2.2.1,kz2.cell sz1.2.2.2.2.2.2.2.2.2.2.2.1,kz2.cell sz1.2.2.2.2.2.2.2.2.2.2.2.2.1,kz2.cell sz1.2.2.2.2.2.2.2.2.2.2.2.2.2.1,sz1.2.2.2.2.2.2.2.2.2.2.2.2.2.2.trans kz2⟩
 clear sz1 kz2
 go_wp2_with fail
 go_ret
 exact⟨rfl,sz2.2.2.2.2.2.2.2.2.2.2.2.2.2.2⟩
set_option maxRecDepth 100000 in
set_option maxHeartbeats 4000000 in
theorem kn_yes (n:ByteArray) (a b c:Int) (z:Bool) (v:Int) (w:World) (hs:Spans w) (h0:spB 1 9 a=true) (h1:spB 0 9 b=true) (h2:spB 1 4 c=true) :
  Calls Tryz.prog 241 #[kv n a b c z v] w fun e' w'=>e'=.returned (.bool (spB 0 4 v))∧Kp w w':=by
 have s0:cb6 (w.alloc (.cells #[.string n,.int .i64 a,.int .i64 b,.int .i64 c,.bool z,.int .i64 v] 176)) (w.heap.size) (.string n) (.int .i64 a) (.int .i64 b) (.int .i64 c) (.bool z) (.int .i64 v) (cb2 (w.alloc (.cells #[.string n,.int .i64 a,.int .i64 b,.int .i64 c,.bool z,.int .i64 v] 176)) 20 (.int .i64 1) (.int .i64 9) (cb2 (w.alloc (.cells #[.string n,.int .i64 a,.int .i64 b,.int .i64 c,.bool z,.int .i64 v] 176)) 21 (.int .i64 0) (.int .i64 9) (cb2 (w.alloc (.cells #[.string n,.int .i64 a,.int .i64 b,.int .i64 c,.bool z,.int .i64 v] 176)) 22 (.int .i64 1) (.int .i64 4) (cb2 (w.alloc (.cells #[.string n,.int .i64 a,.int .i64 b,.int .i64 c,.bool z,.int .i64 v] 176)) 23 (.int .i64 0) (.int .i64 4) (Kp w (w.alloc (.cells #[.string n,.int .i64 a,.int .i64 b,.int .i64 c,.bool z,.int .i64 v] 176))))))) :=
  ⟨by simp [go_sem],by simp [go_sem],by simp [go_sem],by simp [go_sem],by simp [go_sem],by simp [go_sem],((Kp.refl w).alloc _).cell hs.strength.1,((Kp.refl w).alloc _).cell hs.strength.2,((Kp.refl w).alloc _).cell hs.moves.1,((Kp.refl w).alloc _).cell hs.moves.2,((Kp.refl w).alloc _).cell hs.steps.1,((Kp.refl w).alloc _).cell hs.steps.2,((Kp.refl w).alloc _).cell hs.view.1,((Kp.refl w).alloc _).cell hs.view.2,(Kp.refl w).alloc _⟩
 clear hs
 go_enter Tryz.func241,Tryz.ntmps241
 go_wp2_with fail
 generalize w.alloc (.cells #[.string n,.int .i64 a,.int .i64 b,.int .i64 c,.bool z,.int .i64 v] 176)=W0 at *
 refine(has_any _ _ _ _).mono ?_
 rintro e0 wz0 ⟨rfl,kz0⟩
 have sz0:cb6 wz0 (w.heap.size) (.string n) (.int .i64 a) (.int .i64 b) (.int .i64 c) (.bool z) (.int .i64 v) (cb2 wz0 20 (.int .i64 1) (.int .i64 9) (cb2 wz0 21 (.int .i64 0) (.int .i64 9) (cb2 wz0 22 (.int .i64 1) (.int .i64 4) (cb2 wz0 23 (.int .i64 0) (.int .i64 4) (Kp w wz0))))):=⟨kz0.cell s0.1,kz0.cell s0.2.1,kz0.cell s0.2.2.1,kz0.cell s0.2.2.2.1,kz0.cell s0.2.2.2.2.1,kz0.cell s0.2.2.2.2.2.1,kz0.cell s0.2.2.2.2.2.2.1,kz0.cell s0.2.2.2.2.2.2.2.1,kz0.cell s0.2.2.2.2.2.2.2.2.1,kz0.cell s0.2.2.2.2.2.2.2.2.2.1,kz0.cell s0.2.2.2.2.2.2.2.2.2.2.1,kz0.cell s0.2.2.2.2.2.2.2.2.2.2.2.1,kz0.cell s0.2.2.2.2.2.2.2.2.2.2.2.2.1,kz0.cell s0.2.2.2.2.2.2.2.2.2.2.2.2.2.1,s0.2.2.2.2.2.2.2.2.2.2.2.2.2.2.trans kz0⟩
 clear s0 kz0
 go_wp2_with fail
 refine(has_any _ _ _ _).mono ?_
 rintro e1 wz1 ⟨rfl,kz1⟩
 have sz1:cb6 wz1 (w.heap.size) (.string n) (.int .i64 a) (.int .i64 b) (.int .i64 c) (.bool z) (.int .i64 v) (cb2 wz1 20 (.int .i64 1) (.int .i64 9) (cb2 wz1 21 (.int .i64 0) (.int .i64 9) (cb2 wz1 22 (.int .i64 1) (.int .i64 4) (cb2 wz1 23 (.int .i64 0) (.int .i64 4) (Kp w wz1))))):=⟨kz1.cell sz0.1,kz1.cell sz0.2.1,kz1.cell sz0.2.2.1,kz1.cell sz0.2.2.2.1,kz1.cell sz0.2.2.2.2.1,kz1.cell sz0.2.2.2.2.2.1,kz1.cell sz0.2.2.2.2.2.2.1,kz1.cell sz0.2.2.2.2.2.2.2.1,kz1.cell sz0.2.2.2.2.2.2.2.2.1,kz1.cell sz0.2.2.2.2.2.2.2.2.2.1,kz1.cell sz0.2.2.2.2.2.2.2.2.2.2.1,kz1.cell sz0.2.2.2.2.2.2.2.2.2.2.2.1,kz1.cell sz0.2.2.2.2.2.2.2.2.2.2.2.2.1,kz1.cell sz0.2.2.2.2.2.2.2.2.2.2.2.2.2.1,sz0.2.2.2.2.2.2.2.2.2.2.2.2.2.2.trans kz1⟩
 clear sz0 kz1
 go_wp2_with fail
 refine(has_any _ _ _ _).mono ?_
 rintro e2 wz2 ⟨rfl,kz2⟩
 have sz2:cb6 wz2 (w.heap.size) (.string n) (.int .i64 a) (.int .i64 b) (.int .i64 c) (.bool z) (.int .i64 v) (cb2 wz2 20 (.int .i64 1) (.int .i64 9) (cb2 wz2 21 (.int .i64 0) (.int .i64 9) (cb2 wz2 22 (.int .i64 1) (.int .i64 4) (cb2 wz2 23 (.int .i64 0) (.int .i64 4) (Kp w wz2))))):=⟨kz2.cell sz1.1,kz2.cell sz1.2.1,kz2.cell sz1.2.2.1,kz2.cell sz1.2.2.2.1,kz2.cell sz1.2.2.2.2.1,kz2.cell sz1.2.2.2.2.2.1,kz2.cell sz1.2.2.2.2.2.2.1,kz2.cell sz1.2.2.2.2.2.2.2.1,kz2.cell sz1.2.2.2.2.2.2.2.2.1,kz2.cell sz1.2.2.2.2.2.2.2.2.2.1,kz2.cell sz1.2.2.2.2.2.2.2.2.2.2.1,kz2.cell sz1.2.2.2.2.2.2.2.2.2.2.2.1,kz2.cell sz1.2.2.2.2.2.2.2.2.2.2.2.2.1,kz2.cell sz1.2.2.2.2.2.2.2.2.2.2.2.2.2.1,sz1.2.2.2.2.2.2.2.2.2.2.2.2.2.2.trans kz2⟩
 clear sz1 kz2
 go_wp2_with fail
 refine(has_any _ _ _ _).mono ?_
 rintro e3 wz3 ⟨rfl,kz3⟩
 have sz3:cb6 wz3 (w.heap.size) (.string n) (.int .i64 a) (.int .i64 b) (.int .i64 c) (.bool z) (.int .i64 v) (cb2 wz3 20 (.int .i64 1) (.int .i64 9) (cb2 wz3 21 (.int .i64 0) (.int .i64 9) (cb2 wz3 22 (.int .i64 1) (.int .i64 4) (cb2 wz3 23 (.int .i64 0) (.int .i64 4) (Kp w wz3))))):=⟨kz3.cell sz2.1,kz3.cell sz2.2.1,kz3.cell sz2.2.2.1,kz3.cell sz2.2.2.2.1,kz3.cell sz2.2.2.2.2.1,kz3.cell sz2.2.2.2.2.2.1,kz3.cell sz2.2.2.2.2.2.2.1,kz3.cell sz2.2.2.2.2.2.2.2.1,kz3.cell sz2.2.2.2.2.2.2.2.2.1,kz3.cell sz2.2.2.2.2.2.2.2.2.2.1,kz3.cell sz2.2.2.2.2.2.2.2.2.2.2.1,kz3.cell sz2.2.2.2.2.2.2.2.2.2.2.2.1,kz3.cell sz2.2.2.2.2.2.2.2.2.2.2.2.2.1,kz3.cell sz2.2.2.2.2.2.2.2.2.2.2.2.2.2.1,sz2.2.2.2.2.2.2.2.2.2.2.2.2.2.2.trans kz3⟩
 clear sz2 kz3
 go_wp2_with fail
 go_ret
 exact⟨rfl,sz3.2.2.2.2.2.2.2.2.2.2.2.2.2.2⟩
theorem hasLimits_any (t k:Value) (a b c d e:Int) (w:World) (hs:Spans w) :
  Calls Tryz.prog 239 #[rv t k a b c d e] w fun e' w'=>e'=.returned (.bool (limB a b c d e))∧Kp w w':=by
 unfold limB
 cases h0:spB 1 4 a
 ·exact lim_no1 t k a b c d e w hs h0
 ·cases h1:spB 0 9 b
  ·exact lim_no2 t k a b c d e w hs h0 h1
  ·cases h2:spB 1 9 c
   ·exact lim_no3 t k a b c d e w hs h0 h1 h2
   ·cases h3:spB 0 20 d
    ·exact lim_no4 t k a b c d e w hs h0 h1 h2 h3
    ·exact lim_yes t k a b c d e w hs h0 h1 h2 h3
theorem kNumbers_any (n:ByteArray) (a b c:Int) (z:Bool) (v:Int) (w:World) (hs:Spans w) :
  Calls Tryz.prog 241 #[kv n a b c z v] w fun e' w'=>e'=.returned (.bool (numK ⟨n,a,b,c,z,v⟩))∧Kp w w':=by
 unfold numK
 simp only
 cases h0:spB 1 9 a
 ·exact kn_no1 n a b c z v w hs h0
 ·cases h1:spB 0 9 b
  ·exact kn_no2 n a b c z v w hs h0 h1
  ·cases h2:spB 1 4 c
   ·exact kn_no3 n a b c z v w hs h0 h1 h2
   ·exact kn_yes n a b c z v w hs h0 h1 h2
end Go.Proofs.YtacgknllagdkoaaGreatDoor
/-
 Slices of terrains and of kinds as lists; the program's lists of their names. Nothing that was there is changed.
-/
namespace Go.Proofs.YtacgknllagdkoaaGreatDoor
open Go.RowKit
/-- The cells of a terrain, whose costs read as a list. -/
def TerAt (w:World) (g o:Nat) (x:Ter):Prop :=
 ∃ A c,(w.cell? ⟨g,o,none⟩=some (.string x.name)∧w.cell? ⟨g,o+1,none⟩=some (.slice A x.cost.length c)∧w.cell? ⟨g,o+2,none⟩=some (.int .i64 x.shift)∧w.cell? ⟨g,o+3,none⟩=some (.int .i64 x.height)∧w.cell? ⟨g,o+4,none⟩=some (.bool x.blocks))∧RdI w (.slice A x.cost.length c) x.cost
theorem TerAt.keep {w w':World} {g o:Nat} {x:Ter} (h:TerAt w g o x) (k:Kp w w'):TerAt w' g o x:=by
 obtain⟨A,c,h,hr⟩:=h
 exact⟨A,c,⟨k.cell h.1,k.cell h.2.1,k.cell h.2.2.1,k.cell h.2.2.2.1,k.cell h.2.2.2.2⟩,hr.keep k⟩
def KndAt (w:World) (g o:Nat) (x:Knd):Prop :=
 w.cell? ⟨g,o,none⟩=some (.string x.name)∧w.cell? ⟨g,o+1,none⟩=some (.int .i64 x.str)∧w.cell? ⟨g,o+2,none⟩=some (.int .i64 x.mov)∧w.cell? ⟨g,o+3,none⟩=some (.int .i64 x.stp)∧w.cell? ⟨g,o+4,none⟩=some (.bool x.zone)∧w.cell? ⟨g,o+5,none⟩=some (.int .i64 x.view)
theorem KndAt.keep {w w':World} {g o:Nat} {x:Knd} (h:KndAt w g o x) (k:Kp w w'):KndAt w' g o x :=
 ⟨k.cell h.1,k.cell h.2.1,k.cell h.2.2.1,k.cell h.2.2.2.1,k.cell h.2.2.2.2.1,k.cell h.2.2.2.2.2⟩
/-- The slice with this address, length and room reads as the list l of terrains. -/
def RdT (w:World) (A:Option Addr) (n:Nat) (l:List Ter):Prop :=
 l.length=n∧(0<n→∃ g off,A=some ⟨g,off,none⟩∧∀ i x,l[i]?=some x→TerAt w g (off+i*5) x)
theorem RdT.keep {w w':World} {A:Option Addr} {n:Nat} {l:List Ter} (h:RdT w A n l) (k:Kp w w'):RdT w' A n l:=⟨h.1,fun h0=>by
 obtain⟨g,off,e,hc⟩:=h.2 h0
 exact⟨g,off,e,fun i x hx=>(hc i x hx).keep k⟩⟩
def RdK (w:World) (A:Option Addr) (n:Nat) (l:List Knd):Prop :=
 l.length=n∧(0<n→∃ g off,A=some ⟨g,off,none⟩∧∀ i x,l[i]?=some x→KndAt w g (off+i*6) x)
theorem RdK.keep {w w':World} {A:Option Addr} {n:Nat} {l:List Knd} (h:RdK w A n l) (k:Kp w w'):RdK w' A n l:=⟨h.1,fun h0=>by
 obtain⟨g,off,e,hc⟩:=h.2 h0
 exact⟨g,off,e,fun i x hx=>(hc i x hx).keep k⟩⟩
def OwnS (w:World) (base:Nat) (v:Value) (l:List ByteArray):Prop:=w.ownsRow base 9 1 v l.length (l.map fun x=>.string x)
theorem OwnS.snoc {w:World} {base:Nat} {v:Value} {l:List ByteArray} {x:ByteArray} (h:w.ownsRow base 9 1 v (l.length+1) (l.map (fun x=>.string x)++[.string x])):OwnS w base v (l++[x]):=by
 unfold OwnS
 rw [List.map_append,List.length_append]
 exact h
/-- A new list of strings. -/
def NamesPost (n:Nat) (l:List ByteArray) (w:World) (e:Ending) (w':World):Prop :=
 ∃ A c,e=.returned (.slice A n c)∧RdS w' (.slice A n c) l∧n≤c∧c≤9223372036854775807∧Kp w w'
theorem OwnS.post {w w':World} {base:Nat} {v:Value} {l:List ByteArray} {n:Nat} (h:OwnS w' base v l) (hn:l.length=n) (k:Kp w w'):NamesPost n l w (.returned v) w':=by
 rcases h.2 with ⟨rfl,h0⟩ | ⟨g,cap,cur,rfl,hb,hg,hc,hm,hs,ht⟩
 ·have e:n=0:=by omega
  subst e
  exact⟨none,0,rfl,⟨none,0,by rw [hn],fun h0=>by omega⟩,by omega,by omega,k⟩
 ·subst hn
  refine⟨_,_,rfl,⟨_,_,rfl,fun _=>⟨g,0,rfl,fun i x hx=>?_⟩⟩,by omega,by unfold maxLen at hm;omega,k⟩
  have hi:i<l.length:=(List.getElem?_eq_some_iff.1 hx).1
  rw [Nat.zero_add]
  exact(World.ownsRow.cellAt h i (by omega)).trans (by simp [hx])
theorem infoStr:(Tryz.prog.info? 9).map (fun i=>(i.zero,i.size,i.bytes))=some (some (.string ByteArray.empty),1,16):=by kernel_rfl
theorem mkStrs (n:Nat) (hn:n≤1000) (w:World) :
  (Instr.makeSlice 291 (.int .i64 0) (.int .i64 (n:Int))).run Tryz.prog w=.ok (.slice (some ⟨w.heap.size,0,none⟩) 0 n) (w.alloc (.cells (madeCells #[.string ByteArray.empty] n) 9)):=by
 obtain⟨i,hi,hz,hs,hb⟩:=info_parts infoStr
 have hr:=run_make (P:=Tryz.prog) w 291 9 i (.string ByteArray.empty) Tryz.underlying291 hi hz .i64 .i64 0 (n:Int) (Int.le_refl _) (by omega) (by rw [hb];omega) (by omega)
 rw [hs,Int.toNat_natCast,Nat.mul_one] at hr
 exact hr
theorem ownS_made (w:World) (n:Nat) (hn:n≤1000):OwnS (w.alloc (.cells (madeCells #[.string ByteArray.empty] n) 9)) w.heap.size (.slice (some ⟨w.heap.size,0,none⟩) 0 n) []:=by
 unfold OwnS
 exact World.ownsRow_made w _ n (Nat.le_refl _) (by simp only [maxLen];omega) (by rw [size_madeCells,Nat.mul_one])
theorem one_new (w:World) (x:Value) (t:TypeId) (b:Nat) (hb:b=w.heap.size):∀ j u,[x][j]?=some u→(w.alloc (.cells #[x] t)).cell? ((⟨b,0,none⟩:Addr).add j)=some u:=by
 subst hb
 intro j u hj
 match j,hj with
 | 0,hj=>simp at hj;subst hj;simp [Addr.add]
set_option maxRecDepth 100000 in
set_option maxHeartbeats 1000000 in
theorem terrainNames_any (At:Option Addr) (nt ct:Nat) (l:List Ter) (o:Value) (a b c d e:Int) (w:World) (h:RdT w At nt l) (hl:nt≤1000) :
  Calls Tryz.prog 243 #[rv (.slice At nt ct) o a b c d e] w (NamesPost nt (tNames l) w):=by
 have HN:=Lib.hid h.1
 have HA:=Lib.hid h.2
 have hmk:=fun w=>mkStrs nt hl w
 obtain⟨j0,hj0,hz0,hs0,hb0⟩:=info_parts infoStr
 clear h
 go_enter Tryz.func243,Tryz.ntmps243
 go_wp2_with fail
 have o1:=ownS_made (w.alloc (.cells #[.slice At nt ct,o,.int .i64 a,.int .i64 b,.int .i64 c,.int .i64 d,.int .i64 e] 44)) nt hl
 have k1:Kp w ((w.alloc (.cells #[.slice At nt ct,o,.int .i64 a,.int .i64 b,.int .i64 c,.int .i64 d,.int .i64 e] 44)).alloc (.cells (madeCells #[.string ByteArray.empty] nt) 9)):=((Kp.refl w).alloc _).alloc _
 clear hmk
 go_loopw [3,5,13] (fun v _ i wx=>∃ k:Nat,k≤nt∧i=.int .i64 k∧OwnS wx (w.heap.size+1) v (tNames (l.take k))∧Kp w wx) (fun _ _ i _=>nt - (intOf i).toNat)
 case atStart=>exact⟨0,by omega,rfl,by simpa [tNames] using o1,k1⟩
 case round =>
  clear o1 k1
  obtain⟨k,hk,rfl,ho,kr⟩:=hrel
  by_cases hlt:k<nt
  ·have hlt':(k:Int)<nt:=by omega
   obtain⟨g,off,rfl,hc⟩:=HA.out (by omega)
   obtain⟨x,hx⟩:∃ x,l[k]?=some x:=⟨l[k]'(by have:=HN.out;omega),List.getElem?_eq_getElem _⟩
   have hT:=(hc k x hx).keep kr
   obtain⟨Ac,cc,⟨a0,a1,a2,a3,a4⟩,_⟩:=hT
   have HO:=Lib.hid ho
   have HX:=Lib.hid hx
   clear hc hx ho
   obtain⟨nm,cs,sh,hg,bl⟩:=x
   simp only at a0 a1 a2 a3 a4
   generalize cs.length=nc at a1
   have hln:Hid ((tNames (l.take k)).length≤k):=Lib.hid (by simp only [tNames,List.length_map,List.length_take];omega)
   have HS:Hid (tNames (l.take (k+1))=tNames (l.take k)++[nm]):=Lib.hid (by unfold tNames;rw [List.take_add_one,HX.out];simp)
   have hbk:w.heap.size≤wr.heap.size:=kr.size
   go_wp2_with (at_builtin;refine wpList_append_own_at _ rfl (.tmp 17) (.tmp 20) 291 rfl (w.heap.size+1) 9 j0 (.string ByteArray.empty) 1 16 Tryz.underlying291 hj0 hz0 hs0 hb0 rfl (by decide) _ (tNames (l.take k)).length ((tNames (l.take k)).map fun x=>.string x) rfl (World.ownsRow.alloc (World.ownsRow.alloc HO.out _) _) ⟨wr.heap.size+1,0,none⟩ 1 1 [.string nm] rfl rfl (one_new _ _ _ _ (by simp)) (by simp [Value.oneCell']) (by have:=hln.out;simp only [maxLen];omega) (by have:=hln.out;omega) (by simp;omega) ?_;intro v' w3 hown2 hgrow2 hnil2 hat2;clear hnil2 hat2;have O3:=Lib.hid (OwnS.snoc (x:=nm) hown2);have K3:Kp w w3:=((kr.alloc _).alloc _).grown hgrow2 (fun k e=>(by have:=(World.ownsRow.lt HO.out k e).1;omega));clear hown2 hgrow2)
   go_roundw
   case rel=>exact⟨k+1,by omega,by go_num,by rw [HS.out];exact O3.out,K3⟩
   case measure=>simp [intOf];omega
  ·obtain rfl:k=nt:=by omega
   go_wp2_with fail
   go_ret
   have e:l.take k=l:=List.take_of_length_le (by have:=HN.out;omega)
   rw [e] at ho
   exact ho.post (by have:=HN.out;simpa [tNames] using this) kr
set_option maxRecDepth 100000 in
set_option maxHeartbeats 1000000 in
theorem kindNames_any (At:Option Addr) (nt ct:Nat) (l:List Knd) (o:Value) (a b c d e:Int) (w:World) (h:RdK w At nt l) (hl:nt≤1000) :
  Calls Tryz.prog 244 #[rv o (.slice At nt ct) a b c d e] w (NamesPost nt (kNames l) w):=by
 have HN:=Lib.hid h.1
 have HA:=Lib.hid h.2
 have hmk:=fun w=>mkStrs nt hl w
 obtain⟨j0,hj0,hz0,hs0,hb0⟩:=info_parts infoStr
 clear h
 go_enter Tryz.func244,Tryz.ntmps244
 go_wp2_with fail
 have o1:=ownS_made (w.alloc (.cells #[o,.slice At nt ct,.int .i64 a,.int .i64 b,.int .i64 c,.int .i64 d,.int .i64 e] 44)) nt hl
 have k1:Kp w ((w.alloc (.cells #[o,.slice At nt ct,.int .i64 a,.int .i64 b,.int .i64 c,.int .i64 d,.int .i64 e] 44)).alloc (.cells (madeCells #[.string ByteArray.empty] nt) 9)):=((Kp.refl w).alloc _).alloc _
 clear hmk
 go_loopw [3,5,13] (fun v _ i wx=>∃ k:Nat,k≤nt∧i=.int .i64 k∧OwnS wx (w.heap.size+1) v (kNames (l.take k))∧Kp w wx) (fun _ _ i _=>nt - (intOf i).toNat)
 case atStart=>exact⟨0,by omega,rfl,by simpa [kNames] using o1,k1⟩
 case round =>
  clear o1 k1
  obtain⟨k,hk,rfl,ho,kr⟩:=hrel
  by_cases hlt:k<nt
  ·have hlt':(k:Int)<nt:=by omega
   obtain⟨g,off,rfl,hc⟩:=HA.out (by omega)
   obtain⟨x,hx⟩:∃ x,l[k]?=some x:=⟨l[k]'(by have:=HN.out;omega),List.getElem?_eq_getElem _⟩
   have hT:=(hc k x hx).keep kr
   obtain⟨a0,a1,a2,a3,a4,a5⟩:=hT
   have HO:=Lib.hid ho
   have HX:=Lib.hid hx
   clear hc hx ho
   obtain⟨nm,ks,km,kt,kz,kw⟩:=x
   simp only at a0 a1 a2 a3 a4 a5
   have hln:Hid ((kNames (l.take k)).length≤k):=Lib.hid (by simp only [kNames,List.length_map,List.length_take];omega)
   have HS:Hid (kNames (l.take (k+1))=kNames (l.take k)++[nm]):=Lib.hid (by unfold kNames;rw [List.take_add_one,HX.out];simp)
   have hbk:w.heap.size≤wr.heap.size:=kr.size
   go_wp2_with (at_builtin;refine wpList_append_own_at _ rfl (.tmp 17) (.tmp 20) 291 rfl (w.heap.size+1) 9 j0 (.string ByteArray.empty) 1 16 Tryz.underlying291 hj0 hz0 hs0 hb0 rfl (by decide) _ (kNames (l.take k)).length ((kNames (l.take k)).map fun x=>.string x) rfl (World.ownsRow.alloc (World.ownsRow.alloc HO.out _) _) ⟨wr.heap.size+1,0,none⟩ 1 1 [.string nm] rfl rfl (one_new _ _ _ _ (by simp)) (by simp [Value.oneCell']) (by have:=hln.out;simp only [maxLen];omega) (by have:=hln.out;omega) (by simp;omega) ?_;intro v' w3 hown2 hgrow2 hnil2 hat2;clear hnil2 hat2;have O3:=Lib.hid (OwnS.snoc (x:=nm) hown2);have K3:Kp w w3:=((kr.alloc _).alloc _).grown hgrow2 (fun k e=>(by have:=(World.ownsRow.lt HO.out k e).1;omega));clear hown2 hgrow2)
   go_roundw
   case rel=>exact⟨k+1,by omega,by go_num,by rw [HS.out];exact O3.out,K3⟩
   case measure=>simp [intOf];omega
  ·obtain rfl:k=nt:=by omega
   go_wp2_with fail
   go_ret
   have e:l.take k=l:=List.take_of_length_le (by have:=HN.out;omega)
   rw [e] at ho
   exact ho.post (by have:=HN.out;simpa [kNames] using this) kr
end Go.Proofs.YtacgknllagdkoaaGreatDoor
