/-
  The law on ParseSealed holds at every text: the program's answer is the reference's. The named variables hold what the program's text lays (the card ties them).
-/
import Derived.Test.YtpenimbmonenpaaDoorPaV
import Derived.Test.YtpenimbmonenpaaDoorTabV
import Derived.Test.YtpenimbmonenpaaDoorTabSp
import Derived.Test.YtpenimbmonenpaaDoorFcParseSealed
namespace Go.Proofs.YtpenimbmonenpaaDoor.parseSealedLaw
open Go.ChangeShapes Go.WideShapes Go.ChangeAt Go.RowKit Go.Joins

set_option maxRecDepth 100000 in
set_option maxHeartbeats 16000000 in
theorem walk (s : ByteArray) (w : World) (g0 : SpanAt w 0 0 30) (g1 : SpanAt w 1 0 1) (g2 : SpanAt w 2 0 4611686016279904236) (gp : PwAt w) (ge : ErAt w) :
    Calls Tryd.prog 4 #[.string s] w fun e' w' => e' = .returned (.bool true) ∧ Kp w w' := by
  have HG := Lib.hid (show SpanAt w 0 0 30 ∧ SpanAt w 1 0 1 ∧ SpanAt w 2 0 4611686016279904236 ∧ PwAt w ∧ ErAt w from ⟨g0, g1, g2, gp, ge⟩)
  clear g0 g1 g2 gp ge
  by_cases hl : s.size ≤ 1048576
  · obtain ⟨x, r, he⟩ := splA_ne 32 s.data.toList []
    have CI := Lib.hid (fun (w : World) (h : SpanAt w 0 0 30 ∧ SpanAt w 1 0 1 ∧ SpanAt w 2 0 4611686016279904236 ∧ PwAt w ∧ ErAt w) => parseSealedP_any s x r w hl he h.1 h.2.1 h.2.2.1 h.2.2.2.1 h.2.2.2.2)
    have CS := Lib.hid (fun w => parseSealedS_any s x r w hl he)
    rw [ps_eq s x r he] at CI
    obtain ⟨a, b, c, B, hp⟩ : ∃ a b c B, prV (psR s (x :: r)) = .tuple #[slx a b c, .bool B] := by
      cases psR s (x :: r) with
      | none => exact ⟨0, 0, 0, false, rfl⟩
      | some p => exact ⟨p.1, p.2.1, p.2.2, true, rfl⟩
    rw [hp] at CI CS
    have eB : (B != B) = false := by simp
    have hl' : (s.size : Int) ≤ 1048576 := by omega
    clear hp he
    go_enter Tryd.func4, Tryd.ntmps4
    go_wp2_with fail
    refine (CS.out _).mono ?_
    rintro e1 w1 ⟨rfl, k1⟩
    have K1 := k1
    have KA1q1 := (Kp.refl w1).alloc (.cells #[.int .i64 a, .int .i64 b, .int .i64 c] 26)
    have B0_1q1 : Hid (SeaAt (w1.alloc (.cells #[.int .i64 a, .int .i64 b, .int .i64 c] 26)) w1.heap.size 0 ⟨a, b, c⟩) := Lib.hid ⟨by simp [go_sem], by simp [go_sem], by simp [go_sem]⟩
    have K1q1 := K1.trans KA1q1
    go_wp2_with fail
    generalize (w1.alloc (.cells #[.int .i64 a, .int .i64 b, .int .i64 c] 26)) = w1q1 at *
    refine (CI.out _ ⟨(K1q1.two HG.out.1), (K1q1.two HG.out.2.1), (K1q1.two HG.out.2.2.1), HG.out.2.2.2.1.keep K1q1, HG.out.2.2.2.2.keep K1q1⟩).mono ?_
    rintro e2 w2 ⟨rfl, k2⟩
    have B0_2 := Lib.hid (B0_1q1.out.keep k2)
    clear B0_1q1
    have K2 := K1q1.trans k2
    have KA2q2 := (Kp.refl w2).alloc (.cells #[.int .i64 a, .int .i64 b, .int .i64 c] 26)
    have B0_2q2 := Lib.hid (B0_2.out.keep KA2q2)
    clear B0_2
    have B1_2q2 : Hid (SeaAt (w2.alloc (.cells #[.int .i64 a, .int .i64 b, .int .i64 c] 26)) w2.heap.size 0 ⟨a, b, c⟩) := Lib.hid ⟨by simp [go_sem], by simp [go_sem], by simp [go_sem]⟩
    have K2q2 := K2.trans KA2q2
    obtain ⟨r0, r1, r2⟩ := B0_2q2.out
    obtain ⟨v0, v1, v2⟩ := B1_2q2.out
    simp only [Nat.zero_add] at r0 r1 r2 v0 v1 v2
    go_wp2_with fail
    generalize (w2.alloc (.cells #[.int .i64 a, .int .i64 b, .int .i64 c] 26)) = w2q2 at *
    refine (eqSealed_same a b c _).mono ?_
    rintro e3 w3 ⟨rfl, k3⟩
    have B0_3 := Lib.hid (B0_2q2.out.keep k3)
    clear B0_2q2
    have B1_3 := Lib.hid (B1_2q2.out.keep k3)
    clear B1_2q2
    have K3 := K2q2.trans k3
    go_wp2_with fail
    go_ret
    exact ⟨rfl, K3⟩
  · have hl' : 1048576 < (s.size : Int) := by omega
    go_enter Tryd.func4, Tryd.ntmps4
    go_wp2_with fail
    go_ret
    exact ⟨rfl, Kp.refl _⟩

set_option maxRecDepth 100000 in
theorem contract (H : Type) (enc : TypeId × Value → H) (W : World) (base : Nat) (args : Array Value) (ds gs : List (DataW H)) (before : List MemPlace)
    (hval : ∀ (j : Nat) t v, Tryd.f4.params[j]? = some t → args[j]? = some v → Value.okWide Tryd.prog W .any base t v)
    (hW : DataW.Whole enc Tryd.prog Tryd.f4.params.toList Rows.fnExactParseSealedSpec.vars false W args.toList ds gs before) (hL : laidMetH Tryd.prog Rows.fnExactParseSealedRow.laid W) :
    Calls Tryd.prog 4 args W fun e W' => ∃ v, e = .returned v ∧ Rows.fnExactParseSealedSpec.post enc Tryd.prog Tryd.f4 false true false false W args v W' := by
  have hW' := hW
  obtain ⟨p, q, hA0, hV, rfl, hfz, hnd⟩ := hW
  have hA : DataW.TrodAll enc Tryd.prog W 0 (fun _ => true) true Tryd.f4.params.toList args.toList ds p := hA0
  rw [Tryd.params4] at hA hval
  obtain ⟨v0, d0, rfl, rfl, h0⟩ := trodAll_one hA
  obtain ⟨_, _, _, rfl⟩ := lenvD3 (trodVars_len hV)
  obtain ⟨n0, rfl, _, _, ws0⟩ := Go.ChangeMaps.open_string Tryd.underlying9 (hval 0 9 v0 rfl rfl) h0
  refine (walk n0 W (laidParseSealed hL).1 (laidParseSealed hL).2.1 (laidParseSealed hL).2.2.1 (laidParseSealed hL).2.2.2.1 (laidParseSealed hL).2.2.2.2).mono fun e W' ⟨he, hg⟩ => ?_
  subst he
  exact ⟨_, rfl, law_post hW' laidOut (by kernel_rfl) (by kernel_rfl) (by kernel_rfl) Tryd.underlying4 rfl hg⟩

theorem laid_met (os : Os) : laidMet Tryd.prog Rows.fnExactParseSealedRow.laid ((laidWorldDi os).forCall (fun _ _ => 0) ⟨#[], #[.string ByteArray.empty], []⟩).memory :=
  laidMet_of_run' 8 (by kernel_rfl) (by kernel_rfl)
theorem reads (os : Os) {H : Type} (enc : TypeId × Value → H) : ∃ ds gs places, DataW.whole enc Tryd.prog ((laidWorldDi os).forCall (fun _ _ => 0) ⟨#[], #[.string ByteArray.empty], []⟩).memory Tryd.f4.params.toList Rows.fnExactParseSealedSpec.vars false #[.string ByteArray.empty].toList 8 = some (ds, gs, places) :=
  ⟨[.lit (.string [])], [Rows.laid_loop_example_g00886_impl_sealTurnSpan, Rows.laid_loop_example_g00886_impl_sideSpan, Rows.laid_loop_example_g00886_impl_seedSpan], MemPlace.row ⟨0, 0, none⟩ 2 ++ (MemPlace.row ⟨1, 0, none⟩ 2 ++ (MemPlace.row ⟨2, 0, none⟩ 2)), by kernel_rfl⟩

set_option maxRecDepth 100000 in
theorem lifted (os : Os) (started : os.Started) (H : Type) (enc : TypeId × Value → H) (F : Stop.Interp) :
    ReturnsInHanded {} Tryd.checked os 4 .any ((OpenSpec.ofChange Rows.fnExactParseSealedSpec).preRow enc Tryd.prog Tryd.f4 Rows.fnExactParseSealedRow.domain false Rows.fnExactParseSealedRow.laid) (((OpenSpec.ofChange Rows.fnExactParseSealedSpec).at F).post enc Tryd.prog Tryd.f4 false true false false) := by
  obtain ⟨ds, gs, places, hx⟩ := reads os enc
  refine returnsInHanded_of_row (C := Tryd.checked) (s := OpenSpec.ofChange Rows.fnExactParseSealedSpec) own started (by kernel_rfl) Tryd.func4
    (witness_row_at (enc := enc) (C := Tryd.checked) false (laidWorldDi os) #[.string ByteArray.empty] rfl (by kernel_rfl) (by kernel_rfl) (by kernel_rfl)
      (OpenSpec.preRow_of_cond 8 hx (by kernel_rfl) (fun k hk => by cases hk) (by kernel_rfl) (laid_met os))) ?_
  intro W base args ds gs before hval hW _ _ _ hL _ _
  exact contract H enc W base args ds gs before hval hW hL

theorem said : Rows.FnExactParseSealedSaid :=
  OpenClaim.holds_of_cond 4 Tryd.f4 rfl rfl rfl rfl rfl rfl rfl ⟨rfl, rfl, rfl, rfl, rfl⟩ rfl rfl rfl rfl rfl (by kernel_rfl) Tryd.func4 parseSealedFacts.parseSealedClosed
    (of_decide_eq_true (by kernel_rfl)) (by unfold Func.isWrapper; first | (rw [if_pos (by decide +kernel)]; kernel_rfl) | (rw [if_neg (by decide +kernel)]; exact ⟨rfl, rfl⟩))
    (fun os started H enc _ F => by rw [OpenClaim.pre_eq_preRow]; exact lifted os started H enc F)

theorem plain (f : FuncId) (fn : Func) (hf : Tryd.pinned.checked.prog.funcNamed "loop.example/g00886/laws.FnExactParseSealed" = some f) (hfn : Tryd.pinned.checked.prog.funcs[f]? = some fn) :
    true = Tryd.pinned.checked.prog.looks [] ∧ ∀ (j : Nat) t, fn.params[j]? = some t → Tryd.pinned.checked.prog.wantsStandIn t = false := by
  obtain rfl : f = 4 := Option.some.inj ((show Tryd.prog.funcNamed "loop.example/g00886/laws.FnExactParseSealed" = some 4 by kernel_rfl).symm.trans hf) |>.symm
  obtain rfl : fn = Tryd.f4 := (Option.some.inj (Tryd.func4.symm.trans hfn)).symm
  refine ⟨by kernel_rfl, fun j t ht => ?_⟩
  rw [Tryd.params4] at ht
  have hm := Array.mem_of_getElem? ht
  simp only [List.mem_toArray, List.mem_cons, List.not_mem_nil, or_false] at hm
  subst hm
  exact (show Tryd.prog.wantsStandIn 9 = false by kernel_rfl)

/-- The card: the row, with what it lists tied to the program's text. -/
theorem card : Rows.FnExactParseSealedCardSaid :=
  Claim7.holds_tied_plain_at .later [] _ _ _ _ said (fun _ h => by cases h) (by kernel_rfl) (fun _ h => by cases h) fnExactParseSealed_row_tie rfl ⟨rfl, rfl⟩ (by kernel_rfl) rfl plain (by kernel_rfl)
#print axioms card

end Go.Proofs.YtpenimbmonenpaaDoor.parseSealedLaw
