/-
  The law on MixNumbers holds at every list of numbers: the program's answer is the reference's, and the list is left as it was. The named variable holds what the program's text lays (the card ties it).
-/
import Derived.Test.YtjelgohdjmcoiaaDoorDiL
import Derived.Test.YtjelgohdjmcoiaaDoorOpenI
import Derived.Test.YtjelgohdjmcoiaaDoorTabDi
namespace Go.Proofs.YtjelgohdjmcoiaaDoor.mixNumbersLaw
open Go.ChangeShapes Go.WideShapes Go.ChangeAt Go.RowKit Go.Joins

set_option maxRecDepth 100000 in
theorem rdL_of_trod {H : Type} {enc : TypeId × Value → H} {W : World} {base : Nat} {v : Value} {d : DataW H} {p : List MemPlace}
    (hv : Value.okWide Tryd.prog W .any base 22 v) (h : DataW.Trod enc Tryd.prog W 0 (fun _ => true) true 22 v d p) : ∃ l, RdI W v l ∧ l.length ≤ 9223372036854775807 := by
  obtain ⟨a0, len, cap, rfl⟩ := okWide_slice Tryd.underlying22 hv
  obtain ⟨n, hf⟩ := h
  obtain ⟨l, h1, h2, _⟩ := rdB_of_trod hf
  exact ⟨l, h1, h2⟩

set_option maxRecDepth 100000 in
set_option maxHeartbeats 16000000 in
theorem walk (v : Value) (l : List Int) (w : World) (h : RdI w v l) (hlen : l.length ≤ 9223372036854775807) (g0 : SpanAt w 0 0 200) :
    Calls Tryd.prog 3 #[v] w fun e' w' => e' = .returned (.bool true) ∧ Kp w w' := by
  by_cases hl : l.length ≤ 1048576
  · have CT := Lib.hid (fun w h => toIntS_any v l w h hl)
    have CI := Lib.hid (fun v w h g => mixNumbersP_any v l w h hl g)
    have CS := Lib.hid (fun v w h => mixNumbersS_any v l w h hl)
    have HR := Lib.hid h
    have HG := Lib.hid g0
    have CE := Lib.hid (fun va vb w ha hb => eqIntS_same va vb l w ha hb hl)
    obtain ⟨A, c, rfl, -⟩ := h
    generalize mixB l = B at CI CS
    generalize hashN (mixL l) = X at CI CS
    have eB : (B != B) = false := by simp
    have eX : (vI B X != vI B X) = false := by simp
    generalize vI B X = Y at *
    have hl' : (l.length : Int) ≤ 1048576 := by omega
    clear g0
    generalize l.length = n at *
    go_enter Tryd.func3, Tryd.ntmps3
    go_wp2_with fail
    refine (CT.out _ HR.out).mono ?_
    rintro e1 w1 ⟨v1, rfl, o1, k1⟩
    have R1 := Lib.hid o1.rd
    clear o1
    go_wp2_with fail
    refine (CS.out _ _ R1.out).mono ?_
    rintro e2 w2 ⟨rfl, rfl⟩
    go_wp2_with fail
    refine (CT.out _ (HR.out.keep k1)).mono ?_
    rintro e3 w3 ⟨v3, rfl, o3, k3⟩
    have R3 := Lib.hid o3.rd
    have K3 := k1.trans k3
    clear o3
    go_wp2_with fail
    refine (CI.out _ _ R3.out (K3.two HG.out)).mono ?_
    rintro e4 w4 ⟨rfl, k4⟩
    have K4 := K3.trans k4
    have R4 := Lib.hid (R3.out.keep k4)
    go_wp2_with fail
    refine (CT.out _ (HR.out.keep K4)).mono ?_
    rintro e5 w5 ⟨v5, rfl, o5, k5⟩
    have R5 := Lib.hid o5.rd
    have R6 := Lib.hid (R4.out.keep k5)
    have K5 := K4.trans k5
    clear o5
    go_wp2_with fail
    refine (CE.out _ _ _ R6.out R5.out).mono ?_
    rintro e6 w6 ⟨rfl, k6⟩
    go_wp2_with fail
    go_ret
    exact ⟨rfl, K5.trans k6⟩
  · obtain ⟨A, c, rfl, -⟩ := h
    have hl' : 1048576 < (l.length : Int) := by omega
    generalize l.length = n at *
    go_enter Tryd.func3, Tryd.ntmps3
    go_wp2_with fail
    go_ret
    exact ⟨rfl, Kp.refl _⟩

set_option maxRecDepth 100000 in
theorem contract (H : Type) (enc : TypeId × Value → H) (W : World) (base : Nat) (args : Array Value) (ds gs : List (DataW H)) (before : List MemPlace)
    (hval : ∀ (j : Nat) t v, Tryd.f3.params[j]? = some t → args[j]? = some v → Value.okWide Tryd.prog W .any base t v)
    (hW : DataW.Whole enc Tryd.prog Tryd.f3.params.toList Rows.fnExactMixNumbersSpec.vars false W args.toList ds gs before) (hL : laidMetH Tryd.prog Rows.fnExactMixNumbersRow.laid W) :
    Calls Tryd.prog 3 args W fun e W' => ∃ v, e = .returned v ∧ Rows.fnExactMixNumbersSpec.post enc Tryd.prog Tryd.f3 false true false false W args v W' := by
  have hW' := hW
  obtain ⟨p, q, hA0, hV, rfl, hfz, hnd⟩ := hW
  have hA : DataW.TrodAll enc Tryd.prog W 0 (fun _ => true) true Tryd.f3.params.toList args.toList ds p := hA0
  rw [Tryd.params3] at hA hval
  obtain ⟨v0, d0, rfl, rfl, h0⟩ := trodAll_one hA
  obtain ⟨_, rfl⟩ := lenvD1 (trodVars_len hV)
  obtain ⟨l0, hR0, hl0⟩ := rdL_of_trod (hval 0 22 v0 rfl rfl) h0
  refine (walk v0 l0 W hR0 hl0 (laidMixNumbers hL)).mono fun e W' ⟨he, hg⟩ => ?_
  subst he
  exact ⟨_, rfl, law_post hW' laidOut (by kernel_rfl) (by kernel_rfl) (by kernel_rfl) Tryd.underlying4 rfl hg⟩

theorem laid_met (os : Os) : laidMet Tryd.prog Rows.fnExactMixNumbersRow.laid ((laidWorldDi os).forCall (fun _ _ => 0) ⟨#[], #[.slice none 0 0], []⟩).memory :=
  laidMet_of_run' 8 (by kernel_rfl) (by kernel_rfl)
theorem reads (os : Os) {H : Type} (enc : TypeId × Value → H) : ∃ ds gs places, DataW.whole enc Tryd.prog ((laidWorldDi os).forCall (fun _ _ => 0) ⟨#[], #[.slice none 0 0], []⟩).memory Tryd.f3.params.toList Rows.fnExactMixNumbersSpec.vars false #[.slice none 0 0].toList 8 = some (ds, gs, places) :=
  ⟨[.nil], [Rows.laid_loop_example_g00886_impl_mixedSpan], MemPlace.row ⟨0, 0, none⟩ 2, by kernel_rfl⟩

set_option maxRecDepth 100000 in
theorem lifted (os : Os) (started : os.Started) (H : Type) (enc : TypeId × Value → H) (F : Stop.Interp) :
    ReturnsInHanded {} Tryd.checked os 3 .any ((OpenSpec.ofChange Rows.fnExactMixNumbersSpec).preRow enc Tryd.prog Tryd.f3 Rows.fnExactMixNumbersRow.domain false Rows.fnExactMixNumbersRow.laid) (((OpenSpec.ofChange Rows.fnExactMixNumbersSpec).at F).post enc Tryd.prog Tryd.f3 false true false false) := by
  obtain ⟨ds, gs, places, hx⟩ := reads os enc
  refine returnsInHanded_of_row (C := Tryd.checked) (s := OpenSpec.ofChange Rows.fnExactMixNumbersSpec) own started (by kernel_rfl) Tryd.func3
    (witness_row_at (enc := enc) (C := Tryd.checked) false (laidWorldDi os) #[.slice none 0 0] rfl (by kernel_rfl) (by kernel_rfl) (by kernel_rfl)
      (OpenSpec.preRow_of_cond 8 hx (by kernel_rfl) (fun k hk => by cases hk) (by kernel_rfl) (laid_met os))) ?_
  intro W base args ds gs before hval hW _ _ _ hL _ _
  exact contract H enc W base args ds gs before hval hW hL

theorem said : Rows.FnExactMixNumbersSaid :=
  OpenClaim.holds_of_cond 3 Tryd.f3 rfl rfl rfl rfl rfl rfl rfl ⟨rfl, rfl, rfl, rfl, rfl⟩ rfl rfl rfl rfl rfl (by kernel_rfl) Tryd.func3 (by kernel_rfl)
    (of_decide_eq_true (by kernel_rfl)) (by unfold Func.isWrapper; first | (rw [if_pos (by decide +kernel)]; kernel_rfl) | (rw [if_neg (by decide +kernel)]; exact ⟨rfl, rfl⟩))
    (fun os started H enc _ F => by rw [OpenClaim.pre_eq_preRow]; exact lifted os started H enc F)

theorem plain (f : FuncId) (fn : Func) (hf : Tryd.pinned.checked.prog.funcNamed "loop.example/g00886/laws.FnExactMixNumbers" = some f) (hfn : Tryd.pinned.checked.prog.funcs[f]? = some fn) :
    false = Tryd.pinned.checked.prog.looks [] ∧ ∀ (j : Nat) t, fn.params[j]? = some t → Tryd.pinned.checked.prog.wantsStandIn t = false := by
  obtain rfl : f = 3 := Option.some.inj ((show Tryd.prog.funcNamed "loop.example/g00886/laws.FnExactMixNumbers" = some 3 by kernel_rfl).symm.trans hf) |>.symm
  obtain rfl : fn = Tryd.f3 := (Option.some.inj (Tryd.func3.symm.trans hfn)).symm
  refine ⟨by kernel_rfl, fun j t ht => ?_⟩
  rw [Tryd.params3] at ht
  have hm := Array.mem_of_getElem? ht
  simp only [List.mem_toArray, List.mem_cons, List.not_mem_nil, or_false] at hm
  subst hm
  exact (show Tryd.prog.wantsStandIn 22 = false by kernel_rfl)

/-- The card: the row, with what it lists tied to the program's text. -/
theorem card : Rows.FnExactMixNumbersCardSaid :=
  Claim7.holds_tied_plain_at .later [] _ _ _ _ said (fun _ h => by cases h) (by kernel_rfl) (fun _ h => by cases h) fnExactMixNumbers_row_tie rfl ⟨rfl, rfl⟩ (by kernel_rfl) rfl plain (by kernel_rfl)
#print axioms card

end Go.Proofs.YtjelgohdjmcoiaaDoor.mixNumbersLaw
