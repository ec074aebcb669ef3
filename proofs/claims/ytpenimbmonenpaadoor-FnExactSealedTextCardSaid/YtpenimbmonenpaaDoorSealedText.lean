/-
  The law on SealedText holds at every seal: the program's text is the reference's. The named variables hold what the program's text lays (the card ties them).
-/
import Derived.Test.YtpenimbmonenpaaDoorPaQ
import Derived.Test.YtpenimbmonenpaaDoorTabV
import Derived.Test.YtpenimbmonenpaaDoorTabSp
import Derived.Test.YtpenimbmonenpaaDoorFcSealedText
namespace Go.Proofs.YtpenimbmonenpaaDoor.sealedTextLaw
open Go.ChangeShapes Go.WideShapes Go.ChangeAt Go.RowKit Go.Joins

set_option maxRecDepth 100000 in
set_option maxHeartbeats 16000000 in
theorem walk (t s x : Int) (w : World) (g0 : SpanAt w 0 0 30) (g1 : SpanAt w 1 0 1) (g2 : SpanAt w 2 0 4611686016279904236) (gp : PwAt w) :
    Calls Tryd.prog 3 #[slx t s x] w fun e' w' => e' = .returned (.bool true) ∧ Kp w w' := by
  have HG := Lib.hid (show SpanAt w 0 0 30 ∧ SpanAt w 1 0 1 ∧ SpanAt w 2 0 4611686016279904236 ∧ PwAt w from ⟨g0, g1, g2, gp⟩)
  clear g0 g1 g2 gp
  have CI := Lib.hid (fun (w : World) (h : SpanAt w 0 0 30 ∧ SpanAt w 1 0 1 ∧ SpanAt w 2 0 4611686016279904236 ∧ PwAt w) => sealedTextP_any t s x w h.1 h.2.1 h.2.2.1 h.2.2.2)
  have CS := Lib.hid (fun w => sealedTextS_any t s x w)
  generalize stV (seaB ⟨t, s, x⟩) (sealTx ⟨t, s, x⟩) = X at CI CS
  generalize seaB ⟨t, s, x⟩ = B at CI CS
  have eB : (B != B) = false := by simp
  have eX : (X.toList != X.toList) = false := by simp
  go_enter Tryd.func3, Tryd.ntmps3
  have K0 : Kp w (w.alloc (.cells #[.int .i64 t, .int .i64 s, .int .i64 x] 23)) := (Kp.refl w).alloc _
  have BX_0 : Hid (SeaAt (w.alloc (.cells #[.int .i64 t, .int .i64 s, .int .i64 x] 23)) w.heap.size 0 ⟨t, s, x⟩) := Lib.hid ⟨by simp [go_sem], by simp [go_sem], by simp [go_sem]⟩
  go_wp2_with fail
  refine (toSealed_any t s x _).mono ?_
  rintro e1 w1 ⟨rfl, k1⟩
  have BX_1 := Lib.hid (BX_0.out.keep k1)
  clear BX_0
  have K1 := K0.trans k1
  go_wp2_with fail
  refine (CS.out _).mono ?_
  rintro e2 w2 ⟨rfl, k2⟩
  have BX_2 := Lib.hid (BX_1.out.keep k2)
  clear BX_1
  have K2 := K1.trans k2
  obtain ⟨q0, q1, q2⟩ := BX_2.out
  simp only [Nat.zero_add] at q0 q1 q2
  go_wp2_with fail
  refine (toSealed_any t s x _).mono ?_
  rintro e3 w3 ⟨rfl, k3⟩
  have BX_3 := Lib.hid (BX_2.out.keep k3)
  clear BX_2
  have K3 := K2.trans k3
  go_wp2_with fail
  refine (CI.out _ ⟨(K3.two HG.out.1), (K3.two HG.out.2.1), (K3.two HG.out.2.2.1), HG.out.2.2.2.keep K3⟩).mono ?_
  rintro e4 w4 ⟨rfl, k4⟩
  have BX_4 := Lib.hid (BX_3.out.keep k4)
  clear BX_3
  have K4 := K3.trans k4
  go_wp2_with fail
  go_ret
  exact ⟨rfl, K4⟩

set_option maxRecDepth 100000 in
theorem contract (H : Type) (enc : TypeId × Value → H) (W : World) (base : Nat) (args : Array Value) (ds gs : List (DataW H)) (before : List MemPlace)
    (hval : ∀ (j : Nat) t v, Tryd.f3.params[j]? = some t → args[j]? = some v → Value.okWide Tryd.prog W .any base t v)
    (hW : DataW.Whole enc Tryd.prog Tryd.f3.params.toList Rows.fnExactSealedTextSpec.vars false W args.toList ds gs before) (hL : laidMetH Tryd.prog Rows.fnExactSealedTextRow.laid W) :
    Calls Tryd.prog 3 args W fun e W' => ∃ v, e = .returned v ∧ Rows.fnExactSealedTextSpec.post enc Tryd.prog Tryd.f3 false true false false W args v W' := by
  have hW' := hW
  obtain ⟨p, q, hA0, hV, rfl, hfz, hnd⟩ := hW
  have hA : DataW.TrodAll enc Tryd.prog W 0 (fun _ => true) true Tryd.f3.params.toList args.toList ds p := hA0
  rw [Tryd.params3] at hA hval
  obtain ⟨v0, d0, rfl, rfl, h0⟩ := trodAll_one hA
  obtain ⟨_, _, _, rfl⟩ := lenvD3 (trodVars_len hV)
  obtain ⟨z0, rfl, _⟩ := openSealed (hval 0 23 v0 rfl rfl) h0
  refine (walk z0.t z0.s z0.x W (laidSealedText hL).1 (laidSealedText hL).2.1 (laidSealedText hL).2.2.1 (laidSealedText hL).2.2.2).mono fun e W' ⟨he, hg⟩ => ?_
  subst he
  exact ⟨_, rfl, law_post hW' laidOut (by kernel_rfl) (by kernel_rfl) (by kernel_rfl) Tryd.underlying4 rfl hg⟩

theorem laid_met (os : Os) : laidMet Tryd.prog Rows.fnExactSealedTextRow.laid ((laidWorldDi os).forCall (fun _ _ => 0) ⟨#[], #[.agg #[.int .i64 0, .int .i64 0, .int .i64 0]], []⟩).memory :=
  laidMet_of_run' 8 (by kernel_rfl) (by kernel_rfl)
theorem reads (os : Os) {H : Type} (enc : TypeId × Value → H) : ∃ ds gs places, DataW.whole enc Tryd.prog ((laidWorldDi os).forCall (fun _ _ => 0) ⟨#[], #[.agg #[.int .i64 0, .int .i64 0, .int .i64 0]], []⟩).memory Tryd.f3.params.toList Rows.fnExactSealedTextSpec.vars false #[.agg #[.int .i64 0, .int .i64 0, .int .i64 0]].toList 8 = some (ds, gs, places) :=
  ⟨[.agg [.lit (.int .i64 0), .lit (.int .i64 0), .lit (.int .i64 0)]], [Rows.laid_loop_example_g00886_impl_sealTurnSpan, Rows.laid_loop_example_g00886_impl_sideSpan, Rows.laid_loop_example_g00886_impl_seedSpan], MemPlace.row ⟨0, 0, none⟩ 2 ++ (MemPlace.row ⟨1, 0, none⟩ 2 ++ (MemPlace.row ⟨2, 0, none⟩ 2)), by kernel_rfl⟩

set_option maxRecDepth 100000 in
theorem lifted (os : Os) (started : os.Started) (H : Type) (enc : TypeId × Value → H) (F : Stop.Interp) :
    ReturnsInHanded {} Tryd.checked os 3 .any ((OpenSpec.ofChange Rows.fnExactSealedTextSpec).preRow enc Tryd.prog Tryd.f3 Rows.fnExactSealedTextRow.domain false Rows.fnExactSealedTextRow.laid) (((OpenSpec.ofChange Rows.fnExactSealedTextSpec).at F).post enc Tryd.prog Tryd.f3 false true false false) := by
  obtain ⟨ds, gs, places, hx⟩ := reads os enc
  refine returnsInHanded_of_row (C := Tryd.checked) (s := OpenSpec.ofChange Rows.fnExactSealedTextSpec) own started (by kernel_rfl) Tryd.func3
    (witness_row_at (enc := enc) (C := Tryd.checked) false (laidWorldDi os) #[.agg #[.int .i64 0, .int .i64 0, .int .i64 0]] rfl (by kernel_rfl) (by kernel_rfl) (by kernel_rfl)
      (OpenSpec.preRow_of_cond 8 hx (by kernel_rfl) (fun k hk => by cases hk) (by kernel_rfl) (laid_met os))) ?_
  intro W base args ds gs before hval hW _ _ _ hL _ _
  exact contract H enc W base args ds gs before hval hW hL

theorem said : Rows.FnExactSealedTextSaid :=
  OpenClaim.holds_of_cond 3 Tryd.f3 rfl rfl rfl rfl rfl rfl rfl ⟨rfl, rfl, rfl, rfl, rfl⟩ rfl rfl rfl rfl rfl (by kernel_rfl) Tryd.func3 sealedTextFacts.sealedTextClosed
    (of_decide_eq_true (by kernel_rfl)) (by unfold Func.isWrapper; first | (rw [if_pos (by decide +kernel)]; kernel_rfl) | (rw [if_neg (by decide +kernel)]; exact ⟨rfl, rfl⟩))
    (fun os started H enc _ F => by rw [OpenClaim.pre_eq_preRow]; exact lifted os started H enc F)

theorem plain (f : FuncId) (fn : Func) (hf : Tryd.pinned.checked.prog.funcNamed "loop.example/g00886/laws.FnExactSealedText" = some f) (hfn : Tryd.pinned.checked.prog.funcs[f]? = some fn) :
    true = Tryd.pinned.checked.prog.looks [] ∧ ∀ (j : Nat) t, fn.params[j]? = some t → Tryd.pinned.checked.prog.wantsStandIn t = false := by
  obtain rfl : f = 3 := Option.some.inj ((show Tryd.prog.funcNamed "loop.example/g00886/laws.FnExactSealedText" = some 3 by kernel_rfl).symm.trans hf) |>.symm
  obtain rfl : fn = Tryd.f3 := (Option.some.inj (Tryd.func3.symm.trans hfn)).symm
  refine ⟨by kernel_rfl, fun j t ht => ?_⟩
  rw [Tryd.params3] at ht
  have hm := Array.mem_of_getElem? ht
  simp only [List.mem_toArray, List.mem_cons, List.not_mem_nil, or_false] at hm
  subst hm
  exact (show Tryd.prog.wantsStandIn 23 = false by kernel_rfl)

/-- The card: the row, with what it lists tied to the program's text. -/
theorem card : Rows.FnExactSealedTextCardSaid :=
  Claim7.holds_tied_plain_at .later [] _ _ _ _ said (fun _ h => by cases h) (by kernel_rfl) (fun _ h => by cases h) fnExactSealedText_row_tie rfl ⟨rfl, rfl⟩ (by kernel_rfl) rfl plain (by kernel_rfl)
#print axioms card

end Go.Proofs.YtpenimbmonenpaaDoor.sealedTextLaw
