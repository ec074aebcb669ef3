/-
  The law on DirectionTo holds at every pair of hexes: the program's answer is the reference's, and the arguments read as before. The table of directions holds what the program's text lays (the card ties it).
-/
import Derived.Test.YtaakimjkfbpjdaaDoorTab
import Derived.Test.YtaakimjkfbpjdaaDoorDirTo
namespace Go.Proofs.YtaakimjkfbpjdaaDoor.directionToLaw
open Go.ChangeShapes Go.WideShapes Go.ChangeAt Go.RowKit Go.Joins

set_option maxHeartbeats 4000000 in
theorem walk (aq ar bq br : Int) (w : World) (ht : Tab w) :
    Calls Tryd.prog 4 #[hx aq ar, hx bq br] w fun e w' => e = .returned (.bool true) ∧ Kp w w' := by
  have HT := Lib.hid ht
  have CS := Lib.hid (fun w => specDirectionTo_any aq ar bq br w)
  have CI := Lib.hid (fun w ht => directionTo_any aq ar bq br w ht)
  generalize dres aq ar bq br = D at CS CI
  clear ht
  go_enter Tryd.func4, Tryd.ntmps4
  go_wp2
  have hs0 : ((w.alloc (.cells #[.int .i64 aq, .int .i64 ar] 23)).alloc (.cells #[.int .i64 bq, .int .i64 br] 23)).cell? ⟨w.heap.size, 0, none⟩ = some (.int .i64 aq) ∧ ((w.alloc (.cells #[.int .i64 aq, .int .i64 ar] 23)).alloc (.cells #[.int .i64 bq, .int .i64 br] 23)).cell? ⟨w.heap.size, 1, none⟩ = some (.int .i64 ar) ∧ ((w.alloc (.cells #[.int .i64 aq, .int .i64 ar] 23)).alloc (.cells #[.int .i64 bq, .int .i64 br] 23)).cell? ⟨w.heap.size + 1, 0, none⟩ = some (.int .i64 bq) ∧ ((w.alloc (.cells #[.int .i64 aq, .int .i64 ar] 23)).alloc (.cells #[.int .i64 bq, .int .i64 br] 23)).cell? ⟨w.heap.size + 1, 1, none⟩ = some (.int .i64 br) := by simp [go_sem]
  generalize hw : ((w.alloc (.cells #[.int .i64 aq, .int .i64 ar] 23)).alloc (.cells #[.int .i64 bq, .int .i64 br] 23)) = W at *
  have hk0 : Kp w W := by rw [← hw]; exact ((Kp.refl _).alloc _).alloc _
  clear hw
  go_region_held3 (fun w' => w'.cell? ⟨w.heap.size, 0, none⟩ = some (.int .i64 aq) ∧ w'.cell? ⟨w.heap.size, 1, none⟩ = some (.int .i64 ar) ∧ w'.cell? ⟨w.heap.size + 1, 0, none⟩ = some (.int .i64 bq) ∧ w'.cell? ⟨w.heap.size + 1, 1, none⟩ = some (.int .i64 br)) (first | assumption | go_keep)
    (first
      | (go_at_call 8; refine (toHex_any _ _ _).mono ?_; rintro e w1 ⟨rfl, hk⟩; have hs1 := hk.four (by assumption))
      | (go_at_call 11; refine (CS.out _).mono ?_; rintro e w1 ⟨rfl, hk⟩; have hs1 := hk.four (by assumption)))
  go_wp2
  go_region_held3 (fun w' => w'.cell? ⟨w.heap.size, 0, none⟩ = some (.int .i64 aq) ∧ w'.cell? ⟨w.heap.size, 1, none⟩ = some (.int .i64 ar) ∧ w'.cell? ⟨w.heap.size + 1, 0, none⟩ = some (.int .i64 bq) ∧ w'.cell? ⟨w.heap.size + 1, 1, none⟩ = some (.int .i64 br)) (first | assumption | go_keep)
    (first
      | (go_at_call 8; refine (toHex_any _ _ _).mono ?_; rintro e w1 ⟨rfl, hk⟩; have hs1 := hk.four (by assumption))
      | (go_at_call 12; refine (CI.out _ ?_).mono ?_; exact HT.out.keep (by repeat (first | exact hk0 | refine Kp.trans ?_ (by assumption) | refine Kp.drew ?_)); rintro e w1 ⟨rfl, hk⟩; have hs1 := hk.four (by assumption)))
  go_wp2
  go_ret
  exact ⟨rfl, by repeat (first | exact hk0 | refine Kp.trans ?_ (by assumption) | refine Kp.drew ?_)⟩

theorem contract (H : Type) (enc : TypeId × Value → H) (W : World) (base : Nat) (args : Array Value) (ds gs : List (DataW H)) (before : List MemPlace)
    (hval : ∀ (j : Nat) t v, Tryd.f4.params[j]? = some t → args[j]? = some v → Value.okWide Tryd.prog W .any base t v)
    (hW : DataW.Whole enc Tryd.prog Tryd.f4.params.toList Rows.fnExactDirectionToSpec.vars false W args.toList ds gs before) (hL : laidMetH Tryd.prog Rows.fnExactDirectionToRow.laid W) :
    Calls Tryd.prog 4 args W fun e W' => ∃ v, e = .returned v ∧ Rows.fnExactDirectionToSpec.post enc Tryd.prog Tryd.f4 false true false false W args v W' := by
  have hW' := hW
  obtain ⟨p, q, hA0, hV, rfl, hfz, hnd⟩ := hW
  have hA : DataW.TrodAll enc Tryd.prog W 0 (fun _ => true) true Tryd.f4.params.toList args.toList ds p := hA0
  rw [Tryd.params4] at hA hval
  obtain ⟨v0, v1, d0, d1, p0, p1, rfl, rfl, rfl, h0, h1⟩ := trodAll_two hA
  obtain ⟨_, _, _, _, g0, _, rfl, _, _, _, _, _⟩ := trodVars_one hV
  obtain ⟨q0, r0, rfl, _, _⟩ := open_hex (hval 0 23 v0 rfl rfl) h0
  obtain ⟨q1, r1, rfl, _, _⟩ := open_hex (hval 1 23 v1 rfl rfl) h1
  refine (walk q0 r0 q1 r1 W (tab_of_laid hL)).mono fun e W' ⟨he, hg⟩ => ?_
  subst he
  exact ⟨_, rfl, law_post hW' laidOut (by kernel_rfl) (by kernel_rfl) (by kernel_rfl) Tryd.underlying4 rfl hg⟩

theorem laid_met (os : Os) : laidMet Tryd.prog Rows.fnExactDirectionToRow.laid ((laidWorld os).forCall (fun _ _ => 0) ⟨#[], #[.agg #[.int .i64 0, .int .i64 0], .agg #[.int .i64 0, .int .i64 0]], []⟩).memory :=
  laidMet_of_run' 8 (by kernel_rfl) (by kernel_rfl)
theorem reads (os : Os) {H : Type} (enc : TypeId × Value → H) : ∃ ds gs places, DataW.whole enc Tryd.prog ((laidWorld os).forCall (fun _ _ => 0) ⟨#[], #[.agg #[.int .i64 0, .int .i64 0], .agg #[.int .i64 0, .int .i64 0]], []⟩).memory Tryd.f4.params.toList Rows.fnExactDirectionToSpec.vars false #[.agg #[.int .i64 0, .int .i64 0], .agg #[.int .i64 0, .int .i64 0]].toList 8 = some (ds, gs, places) :=
  ⟨[.agg [.lit (.int .i64 0), .lit (.int .i64 0)], .agg [.lit (.int .i64 0), .lit (.int .i64 0)]], [Rows.laid_loop_example_g00886_impl_directionSteps], MemPlace.row ⟨0, 0, none⟩ 12, by kernel_rfl⟩

set_option maxRecDepth 100000 in
theorem lifted (os : Os) (started : os.Started) (H : Type) (enc : TypeId × Value → H) (F : Stop.Interp) :
    ReturnsInHanded {} Tryd.checked os 4 .any ((OpenSpec.ofChange Rows.fnExactDirectionToSpec).preRow enc Tryd.prog Tryd.f4 Rows.fnExactDirectionToRow.domain false Rows.fnExactDirectionToRow.laid) (((OpenSpec.ofChange Rows.fnExactDirectionToSpec).at F).post enc Tryd.prog Tryd.f4 false true false false) := by
  obtain ⟨ds, gs, places, hx⟩ := reads os enc
  refine returnsInHanded_of_row (C := Tryd.checked) (s := OpenSpec.ofChange Rows.fnExactDirectionToSpec) own started (by kernel_rfl) Tryd.func4
    (witness_row_at (enc := enc) (C := Tryd.checked) false (laidWorld os) #[.agg #[.int .i64 0, .int .i64 0], .agg #[.int .i64 0, .int .i64 0]] rfl (by kernel_rfl) (by kernel_rfl) (by kernel_rfl)
      (OpenSpec.preRow_of_cond 8 hx (by kernel_rfl) (fun k hk => by cases hk) (by kernel_rfl) (laid_met os))) ?_
  intro W base args ds gs before hval hW _ _ _ hL _ _
  exact contract H enc W base args ds gs before hval hW hL

theorem said : Rows.FnExactDirectionToSaid :=
  OpenClaim.holds_of_cond 4 Tryd.f4 rfl rfl rfl rfl rfl rfl rfl ⟨rfl, rfl, rfl, rfl, rfl⟩ rfl rfl rfl rfl rfl (by kernel_rfl) Tryd.func4 (by kernel_rfl)
    (of_decide_eq_true (by kernel_rfl)) (by unfold Func.isWrapper; first | (rw [if_pos (by decide +kernel)]; kernel_rfl) | (rw [if_neg (by decide +kernel)]; exact ⟨rfl, rfl⟩))
    (fun os started H enc _ F => by rw [OpenClaim.pre_eq_preRow]; exact lifted os started H enc F)

theorem plain (f : FuncId) (fn : Func) (hf : Tryd.pinned.checked.prog.funcNamed "loop.example/g00886/laws.FnExactDirectionTo" = some f) (hfn : Tryd.pinned.checked.prog.funcs[f]? = some fn) :
    false = Tryd.pinned.checked.prog.looks [] ∧ ∀ (j : Nat) t, fn.params[j]? = some t → Tryd.pinned.checked.prog.wantsStandIn t = false := by
  obtain rfl : f = 4 := Option.some.inj ((show Tryd.prog.funcNamed "loop.example/g00886/laws.FnExactDirectionTo" = some 4 by kernel_rfl).symm.trans hf) |>.symm
  obtain rfl : fn = Tryd.f4 := (Option.some.inj (Tryd.func4.symm.trans hfn)).symm
  refine ⟨by kernel_rfl, fun j t ht => ?_⟩
  rw [Tryd.params4] at ht
  have hm := Array.mem_of_getElem? ht
  simp only [List.mem_toArray, List.mem_cons, List.not_mem_nil, or_false] at hm
  rcases hm with rfl | rfl
  · exact (show Tryd.prog.wantsStandIn 23 = false by kernel_rfl)
  · exact (show Tryd.prog.wantsStandIn 23 = false by kernel_rfl)

/-- The card: the row, with what it lists tied to the program's text. -/
theorem card : Rows.FnExactDirectionToCardSaid :=
  Claim7.holds_tied_plain_at .later [] _ _ _ _ said (fun _ h => by cases h) (by kernel_rfl) (fun _ h => by cases h) fnExactDirectionTo_row_tie rfl ⟨rfl, rfl⟩ (by kernel_rfl) rfl plain (by kernel_rfl)
#print axioms card
end Go.Proofs.YtaakimjkfbpjdaaDoor.directionToLaw
