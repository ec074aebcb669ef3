/-
  The law on SealOrders holds at all numbers and every opening: the program's answer is the reference's. The named variables hold what the program's text lays (the card ties them).
-/
import Derived.Test.YtnobcpgckdgheaaDoorSlT
import Derived.Test.YtnobcpgckdgheaaDoorTabV
import Derived.Test.YtnobcpgckdgheaaDoorTabSl
namespace Go.Proofs.YtnobcpgckdgheaaDoor.sealOrdersLaw
open Go.ChangeShapes Go.WideShapes Go.ChangeAt Go.RowKit Go.Joins

set_option maxRecDepth 100000 in
set_option maxHeartbeats 16000000 in
theorem walk (t s n : Int) (x : ByteArray) (w : World) (hx : x.size ≤ 9223372036854775807) (g0 : SpanAt w 0 0 30) (g1 : SpanAt w 1 0 1) (g2 : SpanAt w 2 0 4611686016279904236) (g3 : SpanAt w 3 0 150) (gu : Lib.Utf8Tabs 6 7 w) :
    Calls Tryd.prog 4 #[.int .i64 t, .int .i64 s, opx n x] w fun e' w' => e' = .returned (.bool true) ∧ Kp w w' := by
  have HG := Lib.hid (show SpanAt w 0 0 30 ∧ SpanAt w 1 0 1 ∧ SpanAt w 2 0 4611686016279904236 ∧ SpanAt w 3 0 150 ∧ Lib.Utf8Tabs 6 7 w from ⟨g0, g1, g2, g3, gu⟩)
  have CI := Lib.hid (fun (w : World) (h : SpanAt w 0 0 30 ∧ SpanAt w 1 0 1 ∧ SpanAt w 2 0 4611686016279904236 ∧ SpanAt w 3 0 150 ∧ Lib.Utf8Tabs 6 7 w) => sealOrdersP_any t s n x w h.1 h.2.1 h.2.2.1 h.2.2.2.1 h.2.2.2.2)
  have CS := Lib.hid (fun w => sealOrdersS_any t s n x w)
  have CZ := Lib.hid (fun w => szOpening_any n x 1048576 w (by omega) (by omega) hx)
  unfold sorV at CI CS
  generalize vI (sorB t s ⟨n, x⟩) t = a at CI CS
  generalize vI (sorB t s ⟨n, x⟩) s = b at CI CS
  generalize vI (sorB t s ⟨n, x⟩) (selN t s n x) = c at CI CS
  generalize sorB t s ⟨n, x⟩ = B at CI CS
  have eB : (B != B) = false := by simp
  clear g0 g1 g2 g3 gu
  go_enter Tryd.func4, Tryd.ntmps4
  have K0 : Kp w (w.alloc (.cells #[.int .i64 n, .string x] 29)) := (Kp.refl w).alloc _
  have BX_0 : Hid (OpnAt (w.alloc (.cells #[.int .i64 n, .string x] 29)) w.heap.size 0 ⟨n, x⟩) := Lib.hid ⟨by simp [go_sem], by simp [go_sem]⟩
  obtain ⟨q0, q1⟩ := BX_0.out
  simp only [Nat.zero_add] at q0 q1
  have zq := cell_lt q0
  go_wp2_with fail
  refine (CZ.out _).mono ?_
  rintro e1 w1 ⟨r, rfl, hr, k1⟩
  have BX_1 := Lib.hid (BX_0.out.keep k1)
  clear BX_0
  have K1 := K0.trans k1
  rcases hr with rfl | ⟨hr0, hr1⟩
  · go_wp2_with fail
    go_ret
    exact ⟨rfl, K1⟩
  have hr2 : ¬ r < 0 := by omega
  obtain ⟨q0, q1⟩ := BX_1.out
  simp only [Nat.zero_add] at q0 q1
  have zq := cell_lt q0
  go_wp2_with fail
  refine (toOpening_any n x _).mono ?_
  rintro e2 w2 ⟨rfl, k2⟩
  have BX_2 := Lib.hid (BX_1.out.keep k2)
  clear BX_1
  have K2 := K1.trans k2
  go_wp2_with fail
  refine (CS.out _).mono ?_
  rintro e3 w3 ⟨rfl, k3⟩
  have BX_3 := Lib.hid (BX_2.out.keep k3)
  clear BX_2
  have K3 := K2.trans k3
  have KA3q1 := (Kp.refl w3).alloc (.cells #[.int .i64 a, .int .i64 b, .int .i64 c] 25)
  have BX_3q1 := Lib.hid (BX_3.out.keep KA3q1)
  clear BX_3
  have B0_3q1 : Hid (SeaAt (w3.alloc (.cells #[.int .i64 a, .int .i64 b, .int .i64 c] 25)) w3.heap.size 0 ⟨a, b, c⟩) := Lib.hid ⟨by simp [go_sem], by simp [go_sem], by simp [go_sem]⟩
  have K3q1 := K3.trans KA3q1
  obtain ⟨q0, q1⟩ := BX_3q1.out
  simp only [Nat.zero_add] at q0 q1
  have zq := cell_lt q0
  go_wp2_with fail
  generalize (w3.alloc (.cells #[.int .i64 a, .int .i64 b, .int .i64 c] 25)) = w3q1 at *
  refine (toOpening_any n x _).mono ?_
  rintro e4 w4 ⟨rfl, k4⟩
  have BX_4 := Lib.hid (BX_3q1.out.keep k4)
  clear BX_3q1
  have B0_4 := Lib.hid (B0_3q1.out.keep k4)
  clear B0_3q1
  have K4 := K3q1.trans k4
  go_wp2_with fail
  refine (CI.out _ ⟨(K4.two HG.out.1), (K4.two HG.out.2.1), (K4.two HG.out.2.2.1), (K4.two HG.out.2.2.2.1), (by first | exact Lib.Utf8Tabs_below HG.out.2.2.2.2 K4 | exact Utf8Tabs_below HG.out.2.2.2.2 K4)⟩).mono ?_
  rintro e5 w5 ⟨rfl, k5⟩
  have BX_5 := Lib.hid (BX_4.out.keep k5)
  clear BX_4
  have B0_5 := Lib.hid (B0_4.out.keep k5)
  clear B0_4
  have K5 := K4.trans k5
  have KA5q2 := (Kp.refl w5).alloc (.cells #[.int .i64 a, .int .i64 b, .int .i64 c] 25)
  have BX_5q2 := Lib.hid (BX_5.out.keep KA5q2)
  clear BX_5
  have B0_5q2 := Lib.hid (B0_5.out.keep KA5q2)
  clear B0_5
  have B1_5q2 : Hid (SeaAt (w5.alloc (.cells #[.int .i64 a, .int .i64 b, .int .i64 c] 25)) w5.heap.size 0 ⟨a, b, c⟩) := Lib.hid ⟨by simp [go_sem], by simp [go_sem], by simp [go_sem]⟩
  have K5q2 := K5.trans KA5q2
  obtain ⟨r0, r1, r2⟩ := B0_5q2.out
  obtain ⟨v0, v1, v2⟩ := B1_5q2.out
  simp only [Nat.zero_add] at r0 r1 r2 v0 v1 v2
  go_wp2_with fail
  generalize (w5.alloc (.cells #[.int .i64 a, .int .i64 b, .int .i64 c] 25)) = w5q2 at *
  refine (eqSealed_same a b c _).mono ?_
  rintro e6 w6 ⟨rfl, k6⟩
  have BX_6 := Lib.hid (BX_5q2.out.keep k6)
  clear BX_5q2
  have B0_6 := Lib.hid (B0_5q2.out.keep k6)
  clear B0_5q2
  have B1_6 := Lib.hid (B1_5q2.out.keep k6)
  clear B1_5q2
  have K6 := K5q2.trans k6
  go_wp2_with fail
  go_ret
  exact ⟨rfl, K6⟩

set_option maxRecDepth 100000 in
theorem contract (H : Type) (enc : TypeId × Value → H) (W : World) (base : Nat) (args : Array Value) (ds gs : List (DataW H)) (before : List MemPlace)
    (hval : ∀ (j : Nat) t v, Tryd.f4.params[j]? = some t → args[j]? = some v → Value.okWide Tryd.prog W .any base t v)
    (hW : DataW.Whole enc Tryd.prog Tryd.f4.params.toList Rows.fnExactSealOrdersSpec.vars false W args.toList ds gs before) (hL : laidMetH Tryd.prog Rows.fnExactSealOrdersRow.laid W) :
    Calls Tryd.prog 4 args W fun e W' => ∃ v, e = .returned v ∧ Rows.fnExactSealOrdersSpec.post enc Tryd.prog Tryd.f4 false true false false W args v W' := by
  have hW' := hW
  obtain ⟨p, q, hA0, hV, rfl, hfz, hnd⟩ := hW
  have hA : DataW.TrodAll enc Tryd.prog W 0 (fun _ => true) true Tryd.f4.params.toList args.toList ds p := hA0
  rw [Tryd.params4] at hA hval
  obtain ⟨v0, v1, v2, d0, d1, d2, p0, p1, p2, rfl, rfl, rfl, h0, h1, h2⟩ := trodAll_three hA
  obtain ⟨_, _, _, _, rfl⟩ := lenvD4 (trodVars_len hV)
  obtain ⟨n0, rfl, _, _, wf0⟩ := open_int Tryd.underlying3 (hval 0 3 v0 rfl rfl) h0
  obtain ⟨n1, rfl, _, _, wf1⟩ := open_int Tryd.underlying3 (hval 1 3 v1 rfl rfl) h1
  obtain ⟨z2, rfl, y2⟩ := openOpening (hval 2 29 v2 rfl rfl) h2
  refine (walk n0 n1 z2.n z2.s W y2.2 (laidSealOrders hL).1 (laidSealOrders hL).2.1 (laidSealOrders hL).2.2.1 (laidSealOrders hL).2.2.2.1 (laidSealOrders hL).2.2.2.2).mono fun e W' ⟨he, hg⟩ => ?_
  subst he
  exact ⟨_, rfl, law_post hW' laidOut (by kernel_rfl) (by kernel_rfl) (by kernel_rfl) Tryd.underlying4 rfl hg⟩

theorem laid_met (os : Os) : laidMet Tryd.prog Rows.fnExactSealOrdersRow.laid ((laidWorldDi os).forCall (fun _ _ => 0) ⟨#[], #[.int .i64 0, .int .i64 0, .agg #[.int .i64 0, .string ByteArray.empty]], []⟩).memory :=
  laidMet_of_run' 8 (by kernel_rfl) (by kernel_rfl)
theorem reads (os : Os) {H : Type} (enc : TypeId × Value → H) : ∃ ds gs places, DataW.whole enc Tryd.prog ((laidWorldDi os).forCall (fun _ _ => 0) ⟨#[], #[.int .i64 0, .int .i64 0, .agg #[.int .i64 0, .string ByteArray.empty]], []⟩).memory Tryd.f4.params.toList Rows.fnExactSealOrdersSpec.vars false #[.int .i64 0, .int .i64 0, .agg #[.int .i64 0, .string ByteArray.empty]].toList 8 = some (ds, gs, places) :=
  ⟨[.lit (.int .i64 0), .lit (.int .i64 0), .agg [.lit (.int .i64 0), .lit (.string [])]], [Rows.laid_loop_example_g00886_impl_sealTurnSpan, Rows.laid_loop_example_g00886_impl_sideSpan, Rows.laid_loop_example_g00886_impl_seedSpan, Rows.laid_loop_example_g00886_impl_openedTextSpan], MemPlace.row ⟨0, 0, none⟩ 2 ++ (MemPlace.row ⟨1, 0, none⟩ 2 ++ (MemPlace.row ⟨2, 0, none⟩ 2 ++ (MemPlace.row ⟨3, 0, none⟩ 2))), by kernel_rfl⟩

set_option maxRecDepth 100000 in
theorem lifted (os : Os) (started : os.Started) (H : Type) (enc : TypeId × Value → H) (F : Stop.Interp) :
    ReturnsInHanded {} Tryd.checked os 4 .any ((OpenSpec.ofChange Rows.fnExactSealOrdersSpec).preRow enc Tryd.prog Tryd.f4 Rows.fnExactSealOrdersRow.domain false Rows.fnExactSealOrdersRow.laid) (((OpenSpec.ofChange Rows.fnExactSealOrdersSpec).at F).post enc Tryd.prog Tryd.f4 false true false false) := by
  obtain ⟨ds, gs, places, hx⟩ := reads os enc
  refine returnsInHanded_of_row (C := Tryd.checked) (s := OpenSpec.ofChange Rows.fnExactSealOrdersSpec) own started (by kernel_rfl) Tryd.func4
    (witness_row_at (enc := enc) (C := Tryd.checked) false (laidWorldDi os) #[.int .i64 0, .int .i64 0, .agg #[.int .i64 0, .string ByteArray.empty]] rfl (by kernel_rfl) (by kernel_rfl) (by kernel_rfl)
      (OpenSpec.preRow_of_cond 8 hx (by kernel_rfl) (fun k hk => by cases hk) (by kernel_rfl) (laid_met os))) ?_
  intro W base args ds gs before hval hW _ _ _ hL _ _
  exact contract H enc W base args ds gs before hval hW hL

theorem said : Rows.FnExactSealOrdersSaid :=
  OpenClaim.holds_of_cond 4 Tryd.f4 rfl rfl rfl rfl rfl rfl rfl ⟨rfl, rfl, rfl, rfl, rfl⟩ rfl rfl rfl rfl rfl (by kernel_rfl) Tryd.func4 (by kernel_rfl)
    (of_decide_eq_true (by kernel_rfl)) (by unfold Func.isWrapper; first | (rw [if_pos (by decide +kernel)]; kernel_rfl) | (rw [if_neg (by decide +kernel)]; exact ⟨rfl, rfl⟩))
    (fun os started H enc _ F => by rw [OpenClaim.pre_eq_preRow]; exact lifted os started H enc F)

theorem plain (f : FuncId) (fn : Func) (hf : Tryd.pinned.checked.prog.funcNamed "loop.example/g00886/laws.FnExactSealOrders" = some f) (hfn : Tryd.pinned.checked.prog.funcs[f]? = some fn) :
    false = Tryd.pinned.checked.prog.looks [] ∧ ∀ (j : Nat) t, fn.params[j]? = some t → Tryd.pinned.checked.prog.wantsStandIn t = false := by
  obtain rfl : f = 4 := Option.some.inj ((show Tryd.prog.funcNamed "loop.example/g00886/laws.FnExactSealOrders" = some 4 by kernel_rfl).symm.trans hf) |>.symm
  obtain rfl : fn = Tryd.f4 := (Option.some.inj (Tryd.func4.symm.trans hfn)).symm
  refine ⟨by kernel_rfl, fun j t ht => ?_⟩
  rw [Tryd.params4] at ht
  have hm := Array.mem_of_getElem? ht
  simp only [List.mem_toArray, List.mem_cons, List.not_mem_nil, or_false] at hm
  rcases hm with rfl | rfl | rfl
  · exact (show Tryd.prog.wantsStandIn 3 = false by kernel_rfl)
  · exact (show Tryd.prog.wantsStandIn 3 = false by kernel_rfl)
  · exact (show Tryd.prog.wantsStandIn 29 = false by kernel_rfl)

/-- The card: the row, with what it lists tied to the program's text. -/
theorem card : Rows.FnExactSealOrdersCardSaid :=
  Claim7.holds_tied_plain_at .later [] _ _ _ _ said (fun _ h => by cases h) (by kernel_rfl) (fun _ h => by cases h) fnExactSealOrders_row_tie rfl ⟨rfl, rfl⟩ (by kernel_rfl) rfl plain (by kernel_rfl)
#print axioms card

end Go.Proofs.YtnobcpgckdgheaaDoor.sealOrdersLaw
