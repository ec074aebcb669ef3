/-
  The law on JointSeed holds at every number and list of numbers: the program's answer is the reference's, and the list is left as it was. The named variables hold what the program's text lays (the card ties them).
-/
import Derived.Test.YtnobcpgckdgheaaDoorSlP
import Derived.Test.YtnobcpgckdgheaaDoorSlS
import Derived.Test.YtnobcpgckdgheaaDoorOpenI
import Derived.Test.YtnobcpgckdgheaaDoorTabV
import Derived.Test.YtnobcpgckdgheaaDoorTabSl
namespace Go.Proofs.YtnobcpgckdgheaaDoor.jointSeedLaw
open Go.ChangeShapes Go.WideShapes Go.ChangeAt Go.RowKit Go.Joins

set_option maxRecDepth 100000 in
theorem rdL_of_trod {H : Type} {enc : TypeId × Value → H} {W : World} {base : Nat} {v : Value} {d : DataW H} {p : List MemPlace}
    (hv : Value.okWide Tryd.prog W .any base 53 v) (h : DataW.Trod enc Tryd.prog W 0 (fun _ => true) true 53 v d p) : ∃ l, RdI W v l ∧ l.length ≤ 9223372036854775807 := by
  obtain ⟨a0, len, cap, rfl⟩ := okWide_slice Tryd.underlying53 hv
  obtain ⟨n, hf⟩ := h
  obtain ⟨l, h1, h2, _⟩ := rdB_of_trod hf
  exact ⟨l, h1, h2⟩
set_option maxRecDepth 100000 in
set_option maxHeartbeats 16000000 in
theorem walk (t : Int) (v : Value) (l : List Int) (w : World) (h : RdI w v l) (hlen : l.length ≤ 9223372036854775807) (g0 : SpanAt w 0 0 30) (g1 : SpanAt w 2 0 4611686016279904236) (g2 : SpanAt w 4 0 4) (g3 : SpanAt w 5 0 200) :
    Calls Tryd.prog 7 #[.int .i64 t, v] w fun e' w' => e' = .returned (.bool true) ∧ Kp w w' := by
  have HG := Lib.hid (show SpanAt w 0 0 30 ∧ SpanAt w 2 0 4611686016279904236 ∧ SpanAt w 4 0 4 ∧ SpanAt w 5 0 200 from ⟨g0, g1, g2, g3⟩)
  by_cases hl : l.length ≤ 1048576
  · have CT := Lib.hid (fun w h => toIntS_any v l w h hl)
    have CI := Lib.hid (fun (v : Value) (w : World) (h : RdI w v l) (g : SpanAt w 0 0 30 ∧ SpanAt w 2 0 4611686016279904236 ∧ SpanAt w 4 0 4 ∧ SpanAt w 5 0 200) => jointSeedP_any t v l w h hl g.1 g.2.2.1 g.2.1 g.2.2.2)
    have CS := Lib.hid (fun v w h => jointSeedS_any t v l w h hl)
    have HR := Lib.hid h
    have CE := Lib.hid (fun va vb w ha hb => eqIntS_same va vb l w ha hb hl)
    obtain ⟨A, c, rfl, -⟩ := h
    generalize joiB t l = B at CI CS
    generalize hashN (mixL (12 :: t :: l)) = X at CI CS
    have eB : (B != B) = false := by simp
    have eX : (vI B X != vI B X) = false := by simp
    generalize vI B X = Y at *
    have hl' : (l.length : Int) ≤ 1048576 := by omega
    generalize l.length = n at *
    clear g0 g1 g2 g3
    go_enter Tryd.func7, Tryd.ntmps7
    go_wp2_with fail
    refine (CT.out _ HR.out).mono ?_
    rintro e1 w1 ⟨v1, rfl, o1, k1⟩
    have HR_1 := Lib.hid (HR.out.keep k1)
    clear HR
    have K1 := k1
    have R1_1 := Lib.hid (o1.rd)
    go_wp2_with fail
    refine (CS.out _ _ R1_1.out).mono ?_
    rintro e2 w2 ⟨rfl, k2⟩
    have HR_2 := Lib.hid (HR_1.out.keep k2)
    clear HR_1
    have R1_2 := Lib.hid (R1_1.out.keep k2)
    clear R1_1
    have K2 := K1.trans k2
    clear R1_2
    go_wp2_with fail
    refine (CT.out _ HR_2.out).mono ?_
    rintro e3 w3 ⟨v3, rfl, o3, k3⟩
    have HR_3 := Lib.hid (HR_2.out.keep k3)
    clear HR_2
    have K3 := K2.trans k3
    have R3_3 := Lib.hid (o3.rd)
    go_wp2_with fail
    refine (CI.out _ _ R3_3.out ⟨(K3.two HG.out.1), (K3.two HG.out.2.1), (K3.two HG.out.2.2.1), (K3.two HG.out.2.2.2)⟩).mono ?_
    rintro e4 w4 ⟨rfl, k4⟩
    have HR_4 := Lib.hid (HR_3.out.keep k4)
    clear HR_3
    have R3_4 := Lib.hid (R3_3.out.keep k4)
    clear R3_3
    have K4 := K3.trans k4
    go_wp2_with fail
    refine (CT.out _ HR_4.out).mono ?_
    rintro e5 w5 ⟨v5, rfl, o5, k5⟩
    have HR_5 := Lib.hid (HR_4.out.keep k5)
    clear HR_4
    have R3_5 := Lib.hid (R3_4.out.keep k5)
    clear R3_4
    have K5 := K4.trans k5
    have R5_5 := Lib.hid (o5.rd)
    go_wp2_with fail
    refine (CE.out _ _ _ R3_5.out R5_5.out).mono ?_
    rintro e6 w6 ⟨rfl, k6⟩
    have HR_6 := Lib.hid (HR_5.out.keep k6)
    clear HR_5
    have R3_6 := Lib.hid (R3_5.out.keep k6)
    clear R3_5
    have R5_6 := Lib.hid (R5_5.out.keep k6)
    clear R5_5
    have K6 := K5.trans k6
    go_wp2_with fail
    go_ret
    exact ⟨rfl, K6⟩
  · obtain ⟨A, c, rfl, -⟩ := h
    have hl' : 1048576 < (l.length : Int) := by omega
    generalize l.length = n at *
    go_enter Tryd.func7, Tryd.ntmps7
    go_wp2_with fail
    go_ret
    exact ⟨rfl, Kp.refl _⟩

set_option maxRecDepth 100000 in
theorem contract (H : Type) (enc : TypeId × Value → H) (W : World) (base : Nat) (args : Array Value) (ds gs : List (DataW H)) (before : List MemPlace)
    (hval : ∀ (j : Nat) t v, Tryd.f7.params[j]? = some t → args[j]? = some v → Value.okWide Tryd.prog W .any base t v)
    (hW : DataW.Whole enc Tryd.prog Tryd.f7.params.toList Rows.fnExactJointSeedSpec.vars false W args.toList ds gs before) (hL : laidMetH Tryd.prog Rows.fnExactJointSeedRow.laid W) :
    Calls Tryd.prog 7 args W fun e W' => ∃ v, e = .returned v ∧ Rows.fnExactJointSeedSpec.post enc Tryd.prog Tryd.f7 false true false false W args v W' := by
  have hW' := hW
  obtain ⟨p, q, hA0, hV, rfl, hfz, hnd⟩ := hW
  have hA : DataW.TrodAll enc Tryd.prog W 0 (fun _ => true) true Tryd.f7.params.toList args.toList ds p := hA0
  rw [Tryd.params7] at hA hval
  obtain ⟨v0, v1, d0, d1, p0, p1, rfl, rfl, rfl, h0, h1⟩ := trodAll_two hA
  obtain ⟨_, _, _, _, rfl⟩ := lenvD4 (trodVars_len hV)
  obtain ⟨n0, rfl, _, _, wf0⟩ := open_int Tryd.underlying3 (hval 0 3 v0 rfl rfl) h0
  obtain ⟨l1, hR1, hl1⟩ := rdL_of_trod (hval 1 53 v1 rfl rfl) h1
  refine (walk n0 v1 l1 W hR1 hl1 (laidJointSeed hL).1 (laidJointSeed hL).2.1 (laidJointSeed hL).2.2.1 (laidJointSeed hL).2.2.2).mono fun e W' ⟨he, hg⟩ => ?_
  subst he
  exact ⟨_, rfl, law_post hW' laidOut (by kernel_rfl) (by kernel_rfl) (by kernel_rfl) Tryd.underlying4 rfl hg⟩

theorem laid_met (os : Os) : laidMet Tryd.prog Rows.fnExactJointSeedRow.laid ((laidWorldDi os).forCall (fun _ _ => 0) ⟨#[], #[.int .i64 0, .slice none 0 0], []⟩).memory :=
  laidMet_of_run' 8 (by kernel_rfl) (by kernel_rfl)
theorem reads (os : Os) {H : Type} (enc : TypeId × Value → H) : ∃ ds gs places, DataW.whole enc Tryd.prog ((laidWorldDi os).forCall (fun _ _ => 0) ⟨#[], #[.int .i64 0, .slice none 0 0], []⟩).memory Tryd.f7.params.toList Rows.fnExactJointSeedSpec.vars false #[.int .i64 0, .slice none 0 0].toList 8 = some (ds, gs, places) :=
  ⟨[.lit (.int .i64 0), .nil], [Rows.laid_loop_example_g00886_impl_sealTurnSpan, Rows.laid_loop_example_g00886_impl_seedSpan, Rows.laid_loop_example_g00886_impl_roundSpan, Rows.laid_loop_example_g00886_impl_mixedSpan], MemPlace.row ⟨0, 0, none⟩ 2 ++ (MemPlace.row ⟨2, 0, none⟩ 2 ++ (MemPlace.row ⟨4, 0, none⟩ 2 ++ (MemPlace.row ⟨5, 0, none⟩ 2))), by kernel_rfl⟩

set_option maxRecDepth 100000 in
theorem lifted (os : Os) (started : os.Started) (H : Type) (enc : TypeId × Value → H) (F : Stop.Interp) :
    ReturnsInHanded {} Tryd.checked os 7 .any ((OpenSpec.ofChange Rows.fnExactJointSeedSpec).preRow enc Tryd.prog Tryd.f7 Rows.fnExactJointSeedRow.domain false Rows.fnExactJointSeedRow.laid) (((OpenSpec.ofChange Rows.fnExactJointSeedSpec).at F).post enc Tryd.prog Tryd.f7 false true false false) := by
  obtain ⟨ds, gs, places, hx⟩ := reads os enc
  refine returnsInHanded_of_row (C := Tryd.checked) (s := OpenSpec.ofChange Rows.fnExactJointSeedSpec) own started (by kernel_rfl) Tryd.func7
    (witness_row_at (enc := enc) (C := Tryd.checked) false (laidWorldDi os) #[.int .i64 0, .slice none 0 0] rfl (by kernel_rfl) (by kernel_rfl) (by kernel_rfl)
      (OpenSpec.preRow_of_cond 8 hx (by kernel_rfl) (fun k hk => by cases hk) (by kernel_rfl) (laid_met os))) ?_
  intro W base args ds gs before hval hW _ _ _ hL _ _
  exact contract H enc W base args ds gs before hval hW hL

theorem said : Rows.FnExactJointSeedSaid :=
  OpenClaim.holds_of_cond 7 Tryd.f7 rfl rfl rfl rfl rfl rfl rfl ⟨rfl, rfl, rfl, rfl, rfl⟩ rfl rfl rfl rfl rfl (by kernel_rfl) Tryd.func7 (by kernel_rfl)
    (of_decide_eq_true (by kernel_rfl)) (by unfold Func.isWrapper; first | (rw [if_pos (by decide +kernel)]; kernel_rfl) | (rw [if_neg (by decide +kernel)]; exact ⟨rfl, rfl⟩))
    (fun os started H enc _ F => by rw [OpenClaim.pre_eq_preRow]; exact lifted os started H enc F)

theorem plain (f : FuncId) (fn : Func) (hf : Tryd.pinned.checked.prog.funcNamed "loop.example/g00886/laws.FnExactJointSeed" = some f) (hfn : Tryd.pinned.checked.prog.funcs[f]? = some fn) :
    false = Tryd.pinned.checked.prog.looks [] ∧ ∀ (j : Nat) t, fn.params[j]? = some t → Tryd.pinned.checked.prog.wantsStandIn t = false := by
  obtain rfl : f = 7 := Option.some.inj ((show Tryd.prog.funcNamed "loop.example/g00886/laws.FnExactJointSeed" = some 7 by kernel_rfl).symm.trans hf) |>.symm
  obtain rfl : fn = Tryd.f7 := (Option.some.inj (Tryd.func7.symm.trans hfn)).symm
  refine ⟨by kernel_rfl, fun j t ht => ?_⟩
  rw [Tryd.params7] at ht
  have hm := Array.mem_of_getElem? ht
  simp only [List.mem_toArray, List.mem_cons, List.not_mem_nil, or_false] at hm
  rcases hm with rfl | rfl
  · exact (show Tryd.prog.wantsStandIn 3 = false by kernel_rfl)
  · exact (show Tryd.prog.wantsStandIn 53 = false by kernel_rfl)

/-- The card: the row, with what it lists tied to the program's text. -/
theorem card : Rows.FnExactJointSeedCardSaid :=
  Claim7.holds_tied_plain_at .later [] _ _ _ _ said (fun _ h => by cases h) (by kernel_rfl) (fun _ h => by cases h) fnExactJointSeed_row_tie rfl ⟨rfl, rfl⟩ (by kernel_rfl) rfl plain (by kernel_rfl)
#print axioms card

end Go.Proofs.YtnobcpgckdgheaaDoor.jointSeedLaw
