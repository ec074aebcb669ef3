/-
  The law on RingOf holds at every hex and every radius: the program's list is the reference's, in memory of its own, and the arguments read as before. The table of directions holds what the program's text lays (the card ties it).
-/
import Derived.Test.YtaakimjkfbpjdaaDoorTab
import Derived.Test.YtaakimjkfbpjdaaDoorRingImpl
import Derived.Test.YtaakimjkfbpjdaaDoorRingSpec
namespace Go.Proofs.YtaakimjkfbpjdaaDoor.ringOfLaw
open Go.ChangeShapes Go.WideShapes Go.ChangeAt Go.RowKit Go.Joins

theorem ringL_short (m : Nat) (q r : Int) (h : m ≤ 6) : (ringL m q r).length ≤ 100 := by
  unfold ringL
  split
  · simp
  · rw [ringUp_length]; omega

/-- Every list that RingOf may return is short. -/
theorem short (q r n : Int) : (if ringOk q r n = true then ringL n.toNat q r else []).length ≤ 100 := by
  split
  · rename_i h
    simp only [ringOk, Bool.and_eq_true, decide_eq_true_eq] at h
    exact ringL_short _ _ _ (by omega)
  · simp

set_option maxHeartbeats 4000000 in
theorem walk (q r n : Int) (w : World) (ht : Tab w) :
    Calls Tryd.prog 6 #[hx q r, .int .i64 n] w fun e w' => e = .returned (.bool true) ∧ Kp w w' := by
  have HT := Lib.hid ht
  have hlen := short q r n
  have CS := Lib.hid (fun w => specRingOf_any q r n w)
  have CI := Lib.hid (fun w ht => ringOf_any q r n w ht)
  unfold ListPost at CS CI
  generalize (if ringOk q r n = true then ringL n.toNat q r else []) = L at CS CI hlen
  generalize ringOk q r n = B at CS CI
  clear ht
  go_enter Tryd.func6, Tryd.ntmps6
  go_wp2_with fail
  refine (toHex_any _ _ _).mono ?_
  rintro e wa ⟨rfl, ka⟩
  have b0 : wa.cell? ⟨w.heap.size, 0, none⟩ = some (.int .i64 q) := ka.cell (by simp [go_sem])
  have b1 : wa.cell? ⟨w.heap.size, 1, none⟩ = some (.int .i64 r) := ka.cell (by simp [go_sem])
  have K1 : Kp w wa := ((Kp.refl _).alloc _).trans ka
  clear ka
  go_wp2_with fail
  refine (CS.out _).mono ?_
  rintro e wb ⟨v0, rfl, o0, kb⟩
  have R0 := Lib.hid o0.rd
  have b2 := kb.two ⟨b0, b1⟩
  clear o0
  go_wp2_with fail
  refine (toHex_any _ _ _).mono ?_
  rintro e wc ⟨rfl, kc⟩
  have b3 := kc.two b2
  have K2 : Kp w wc := (K1.trans kb).trans kc
  clear b2
  go_wp2_with fail
  refine (CI.out _ (HT.out.keep K2)).mono ?_
  rintro e wd ⟨v1, rfl, o1, kd⟩
  have O1 := Lib.hid o1
  have R1 := Lib.hid (R0.out.keep (kc.trans kd))
  have b4 := kd.two b3
  clear o1 b3
  go_wp2_with fail
  refine (eqHexS_same v1 v0 L _ O1.out.rd R1.out (by omega)).mono ?_
  rintro e we ⟨rfl, ke⟩
  have O2 := Lib.hid (O1.out.keep ke)
  have R2 := Lib.hid (R0.out.keep ((kc.trans kd).trans ke))
  have b5 := ke.two b4
  clear b4
  go_wp2_with fail
  refine (markHexS_any v1 L.length wc.heap.size (cellsH L) _ (by omega) O2.out).mono ?_
  rintro e wf ⟨rfl, om, gm⟩
  have KM : Kp wc wf := (kd.trans ke).grown gm (fun k e => (World.ownsRow.lt O2.out k e).1)
  have OM := Lib.hid om
  have R3 := Lib.hid ((R0.out.keep kc).keep KM)
  have b6 : wf.cell? ⟨w.heap.size, 0, none⟩ = some (.int .i64 q) ∧ wf.cell? ⟨w.heap.size, 1, none⟩ = some (.int .i64 r) := KM.two (kc.two (kb.two ⟨by assumption, by assumption⟩))
  have K4 : Kp w wf := K2.trans KM
  clear b5 gm om
  have hne : ((1 + 2 * (L.length : Int)) != (1 + 2 * (L.length : Int))) = false := by simp
  go_wp2_with fail
  refine (heldHexS_any v1 L.length wc.heap.size _ (by omega) OM.out).mono ?_
  rintro e wg ⟨rfl, rfl⟩
  go_wp2_with fail
  refine (toHex_any _ _ _).mono ?_
  rintro e wg ⟨rfl, kg⟩
  go_wp2_with fail
  refine (CI.out _ (HT.out.keep (K4.trans kg))).mono ?_
  rintro e wh ⟨v2, rfl, o2, kh⟩
  have O3 := Lib.hid o2
  have R4 := Lib.hid (R3.out.keep (kg.trans kh))
  have OM2 := Lib.hid (ownsRow_keep (ownsRow_keep OM.out kg) kh)
  clear o2
  go_wp2_with fail
  refine (eqHexS_same v2 v0 L _ O3.out.rd R4.out (by omega)).mono ?_
  rintro e wi ⟨rfl, ki⟩
  have OM3 := Lib.hid (ownsRow_keep OM2.out ki)
  go_wp2_with fail
  refine (heldHexS_any v1 L.length wc.heap.size _ (by omega) OM3.out).mono ?_
  rintro e wj ⟨rfl, rfl⟩
  go_wp2
  go_ret
  exact ⟨rfl, ((K4.trans kg).trans kh).trans ki⟩

theorem contract (H : Type) (enc : TypeId × Value → H) (W : World) (base : Nat) (args : Array Value) (ds gs : List (DataW H)) (before : List MemPlace)
    (hval : ∀ (j : Nat) t v, Tryd.f6.params[j]? = some t → args[j]? = some v → Value.okWide Tryd.prog W .any base t v)
    (hW : DataW.Whole enc Tryd.prog Tryd.f6.params.toList Rows.fnExactRingOfSpec.vars false W args.toList ds gs before) (hL : laidMetH Tryd.prog Rows.fnExactRingOfRow.laid W) :
    Calls Tryd.prog 6 args W fun e W' => ∃ v, e = .returned v ∧ Rows.fnExactRingOfSpec.post enc Tryd.prog Tryd.f6 false true false false W args v W' := by
  have hW' := hW
  obtain ⟨p, q, hA0, hV, rfl, hfz, hnd⟩ := hW
  have hA : DataW.TrodAll enc Tryd.prog W 0 (fun _ => true) true Tryd.f6.params.toList args.toList ds p := hA0
  rw [Tryd.params6] at hA hval
  obtain ⟨v0, v1, d0, d1, p0, p1, rfl, rfl, rfl, h0, h1⟩ := trodAll_two hA
  obtain ⟨_, _, _, _, g0, _, rfl, _, _, _, _, _⟩ := trodVars_one hV
  obtain ⟨q0, r0, rfl, _, _⟩ := open_hex (hval 0 23 v0 rfl rfl) h0
  obtain ⟨n1, rfl, _, _, wf1⟩ := open_int Tryd.underlying3 (hval 1 3 v1 rfl rfl) h1
  refine (walk q0 r0 n1 W (tab_of_laid hL)).mono fun e W' ⟨he, hg⟩ => ?_
  subst he
  exact ⟨_, rfl, law_post hW' laidOut (by kernel_rfl) (by kernel_rfl) (by kernel_rfl) Tryd.underlying4 rfl hg⟩

theorem laid_met (os : Os) : laidMet Tryd.prog Rows.fnExactRingOfRow.laid ((laidWorld os).forCall (fun _ _ => 0) ⟨#[], #[.agg #[.int .i64 0, .int .i64 0], .int .i64 0], []⟩).memory :=
  laidMet_of_run' 8 (by kernel_rfl) (by kernel_rfl)
theorem reads (os : Os) {H : Type} (enc : TypeId × Value → H) : ∃ ds gs places, DataW.whole enc Tryd.prog ((laidWorld os).forCall (fun _ _ => 0) ⟨#[], #[.agg #[.int .i64 0, .int .i64 0], .int .i64 0], []⟩).memory Tryd.f6.params.toList Rows.fnExactRingOfSpec.vars false #[.agg #[.int .i64 0, .int .i64 0], .int .i64 0].toList 8 = some (ds, gs, places) :=
  ⟨[.agg [.lit (.int .i64 0), .lit (.int .i64 0)], .lit (.int .i64 0)], [Rows.laid_loop_example_g00886_impl_directionSteps], MemPlace.row ⟨0, 0, none⟩ 12, by kernel_rfl⟩

set_option maxRecDepth 100000 in
theorem lifted (os : Os) (started : os.Started) (H : Type) (enc : TypeId × Value → H) (F : Stop.Interp) :
    ReturnsInHanded {} Tryd.checked os 6 .any ((OpenSpec.ofChange Rows.fnExactRingOfSpec).preRow enc Tryd.prog Tryd.f6 Rows.fnExactRingOfRow.domain false Rows.fnExactRingOfRow.laid) (((OpenSpec.ofChange Rows.fnExactRingOfSpec).at F).post enc Tryd.prog Tryd.f6 false true false false) := by
  obtain ⟨ds, gs, places, hx⟩ := reads os enc
  refine returnsInHanded_of_row (C := Tryd.checked) (s := OpenSpec.ofChange Rows.fnExactRingOfSpec) own started (by kernel_rfl) Tryd.func6
    (witness_row_at (enc := enc) (C := Tryd.checked) false (laidWorld os) #[.agg #[.int .i64 0, .int .i64 0], .int .i64 0] rfl (by kernel_rfl) (by kernel_rfl) (by kernel_rfl)
      (OpenSpec.preRow_of_cond 8 hx (by kernel_rfl) (fun k hk => by cases hk) (by kernel_rfl) (laid_met os))) ?_
  intro W base args ds gs before hval hW _ _ _ hL _ _
  exact contract H enc W base args ds gs before hval hW hL

theorem said : Rows.FnExactRingOfSaid :=
  OpenClaim.holds_of_cond 6 Tryd.f6 rfl rfl rfl rfl rfl rfl rfl ⟨rfl, rfl, rfl, rfl, rfl⟩ rfl rfl rfl rfl rfl (by kernel_rfl) Tryd.func6 (by kernel_rfl)
    (of_decide_eq_true (by kernel_rfl)) (by unfold Func.isWrapper; first | (rw [if_pos (by decide +kernel)]; kernel_rfl) | (rw [if_neg (by decide +kernel)]; exact ⟨rfl, rfl⟩))
    (fun os started H enc _ F => by rw [OpenClaim.pre_eq_preRow]; exact lifted os started H enc F)

theorem plain (f : FuncId) (fn : Func) (hf : Tryd.pinned.checked.prog.funcNamed "loop.example/g00886/laws.FnExactRingOf" = some f) (hfn : Tryd.pinned.checked.prog.funcs[f]? = some fn) :
    false = Tryd.pinned.checked.prog.looks [] ∧ ∀ (j : Nat) t, fn.params[j]? = some t → Tryd.pinned.checked.prog.wantsStandIn t = false := by
  obtain rfl : f = 6 := Option.some.inj ((show Tryd.prog.funcNamed "loop.example/g00886/laws.FnExactRingOf" = some 6 by kernel_rfl).symm.trans hf) |>.symm
  obtain rfl : fn = Tryd.f6 := (Option.some.inj (Tryd.func6.symm.trans hfn)).symm
  refine ⟨by kernel_rfl, fun j t ht => ?_⟩
  rw [Tryd.params6] at ht
  have hm := Array.mem_of_getElem? ht
  simp only [List.mem_toArray, List.mem_cons, List.not_mem_nil, or_false] at hm
  rcases hm with rfl | rfl
  · exact (show Tryd.prog.wantsStandIn 23 = false by kernel_rfl)
  · exact (show Tryd.prog.wantsStandIn 3 = false by kernel_rfl)

/-- The card: the row, with what it lists tied to the program's text. -/
theorem card : Rows.FnExactRingOfCardSaid :=
  Claim7.holds_tied_plain_at .later [] _ _ _ _ said (fun _ h => by cases h) (by kernel_rfl) (fun _ h => by cases h) fnExactRingOf_row_tie rfl ⟨rfl, rfl⟩ (by kernel_rfl) rfl plain (by kernel_rfl)
#print axioms card
end Go.Proofs.YtaakimjkfbpjdaaDoor.ringOfLaw
