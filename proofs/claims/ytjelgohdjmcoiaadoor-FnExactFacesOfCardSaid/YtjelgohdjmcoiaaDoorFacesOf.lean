/-
  The law on FacesOf holds at all numbers: the program's list is the reference's, in memory of its own. The named variables hold what the program's text lays (the card ties them).
-/
import Derived.Test.YtjelgohdjmcoiaaDoorDiY
import Derived.Test.YtjelgohdjmcoiaaDoorMarkN
import Derived.Test.YtjelgohdjmcoiaaDoorTabDi
namespace Go.Proofs.YtjelgohdjmcoiaaDoor.facesOfLaw
open Go.ChangeShapes Go.WideShapes Go.ChangeAt Go.RowKit Go.Joins

theorem short (a0 a1 : Int) : (if facB a0 a1 = true then facL a0 a1.toNat else []).length ≤ 1000 := by
  split
  · rw [facL_len]
    omega
  · simp

set_option maxRecDepth 100000 in
set_option maxHeartbeats 16000000 in
theorem walk (a0 a1 : Int) (w : World) (g0 : SpanAt w 1 0 4611686016279904236) (g1 : SpanAt w 7 0 600) :
    Calls Tryd.prog 10 #[.int .i64 a0, .int .i64 a1] w fun e' w' => e' = .returned (.bool true) ∧ Kp w w' := by
  have CI := Lib.hid (fun (w : World) (h : SpanAt w 1 0 4611686016279904236 ∧ SpanAt w 7 0 600) => facesOfP_any a0 a1 w (h.1) (h.2))
  have CS := Lib.hid (fun w => facesOfS_any a0 a1 w)
  have HG := Lib.hid (show SpanAt w 1 0 4611686016279904236 ∧ SpanAt w 7 0 600 from ⟨g0, g1⟩)
  have hlen := short a0 a1
  unfold ListPostI at CI CS
  generalize (if facB a0 a1 = true then facL a0 a1.toNat else []) = L at CI CS hlen
  generalize facB a0 a1 = B at CI CS
  have eB : (B != B) = false := by simp
  go_enter Tryd.func10, Tryd.ntmps10
  go_wp2_with fail
  refine (CS.out _).mono ?_
  rintro e1 w1 ⟨v0, rfl, o0, k1⟩
  have R0 := Lib.hid o0.rd
  clear o0
  go_wp2_with fail
  refine (CI.out _ ⟨(k1).two (HG.out.1), (k1).two (HG.out.2)⟩).mono ?_
  rintro e2 w2 ⟨v1, rfl, o1, k2⟩
  have O1 := Lib.hid o1
  have R1 := Lib.hid (R0.out.keep k2)
  have K2 := k1.trans k2
  clear o1
  go_wp2_with fail
  refine (eqIntS_same v1 v0 L _ O1.out.rd R1.out (by omega)).mono ?_
  rintro e3 w3 ⟨rfl, k3⟩
  have O2 := Lib.hid (O1.out.keep k3)
  have R2 := Lib.hid (R1.out.keep k3)
  have K3 := K2.trans k3
  go_wp2_with fail
  refine (markIntS_own v1 L.length w1.heap.size 1 (cellsI L) _ (by omega) (by omega) (by omega) O2.out).mono ?_
  rintro e4 w4 ⟨rfl, om, gm⟩
  have KM : Kp w1 w4 := (k2.trans k3).grown gm (fun k e => (World.ownsRow.lt O2.out k e).1)
  have K4 := k1.trans KM
  have OM := Lib.hid om
  have R3 := Lib.hid (R0.out.keep KM)
  have hne : ((1 + (L.length : Int)) != (1 + (L.length : Int))) = false := by simp
  clear gm om
  go_wp2_with fail
  refine (heldIntS_own v1 L.length w1.heap.size 1 _ (by omega) (by omega) (by omega) OM.out).mono ?_
  rintro e5 w5 ⟨rfl, k5⟩
  have R4 := Lib.hid (R3.out.keep k5)
  have OM2 := Lib.hid (ownsRow_keep OM.out k5)
  have K5 := K4.trans k5
  go_wp2_with fail
  refine (CI.out _ ⟨(K5).two (HG.out.1), (K5).two (HG.out.2)⟩).mono ?_
  rintro e6 w6 ⟨v2, rfl, o2, k6⟩
  have O3 := Lib.hid o2
  have R5 := Lib.hid (R4.out.keep k6)
  have OM3 := Lib.hid (ownsRow_keep OM2.out k6)
  have K6 := K5.trans k6
  clear o2
  go_wp2_with fail
  refine (eqIntS_same v2 v0 L _ O3.out.rd R5.out (by omega)).mono ?_
  rintro e7 w7 ⟨rfl, k7⟩
  have OM4 := Lib.hid (ownsRow_keep OM3.out k7)
  have K7 := K6.trans k7
  go_wp2_with fail
  refine (heldIntS_own v1 L.length w1.heap.size 1 _ (by omega) (by omega) (by omega) OM4.out).mono ?_
  rintro e8 w8 ⟨rfl, k8⟩
  go_wp2_with fail
  go_ret
  exact ⟨rfl, K7.trans k8⟩

set_option maxRecDepth 100000 in
theorem contract (H : Type) (enc : TypeId × Value → H) (W : World) (base : Nat) (args : Array Value) (ds gs : List (DataW H)) (before : List MemPlace)
    (hval : ∀ (j : Nat) t v, Tryd.f10.params[j]? = some t → args[j]? = some v → Value.okWide Tryd.prog W .any base t v)
    (hW : DataW.Whole enc Tryd.prog Tryd.f10.params.toList Rows.fnExactFacesOfSpec.vars false W args.toList ds gs before) (hL : laidMetH Tryd.prog Rows.fnExactFacesOfRow.laid W) :
    Calls Tryd.prog 10 args W fun e W' => ∃ v, e = .returned v ∧ Rows.fnExactFacesOfSpec.post enc Tryd.prog Tryd.f10 false true false false W args v W' := by
  have hW' := hW
  obtain ⟨p, q, hA0, hV, rfl, hfz, hnd⟩ := hW
  have hA : DataW.TrodAll enc Tryd.prog W 0 (fun _ => true) true Tryd.f10.params.toList args.toList ds p := hA0
  rw [Tryd.params10] at hA hval
  obtain ⟨v0, v1, d0, d1, p0, p1, rfl, rfl, rfl, h0, h1⟩ := trodAll_two hA
  obtain ⟨_, _, rfl⟩ := lenvD2 (trodVars_len hV)
  obtain ⟨n0, rfl, _, _, wf0⟩ := open_int Tryd.underlying3 (hval 0 3 v0 rfl rfl) h0
  obtain ⟨n1, rfl, _, _, wf1⟩ := open_int Tryd.underlying3 (hval 1 3 v1 rfl rfl) h1
  refine (walk n0 n1 W (laidFacesOf hL).1 (laidFacesOf hL).2).mono fun e W' ⟨he, hg⟩ => ?_
  subst he
  exact ⟨_, rfl, law_post hW' laidOut (by kernel_rfl) (by kernel_rfl) (by kernel_rfl) Tryd.underlying4 rfl hg⟩

theorem laid_met (os : Os) : laidMet Tryd.prog Rows.fnExactFacesOfRow.laid ((laidWorldDi os).forCall (fun _ _ => 0) ⟨#[], #[.int .i64 0, .int .i64 0], []⟩).memory :=
  laidMet_of_run' 8 (by kernel_rfl) (by kernel_rfl)
theorem reads (os : Os) {H : Type} (enc : TypeId × Value → H) : ∃ ds gs places, DataW.whole enc Tryd.prog ((laidWorldDi os).forCall (fun _ _ => 0) ⟨#[], #[.int .i64 0, .int .i64 0], []⟩).memory Tryd.f10.params.toList Rows.fnExactFacesOfSpec.vars false #[.int .i64 0, .int .i64 0].toList 8 = some (ds, gs, places) :=
  ⟨[.lit (.int .i64 0), .lit (.int .i64 0)], [Rows.laid_loop_example_g00886_impl_seedSpan, Rows.laid_loop_example_g00886_impl_thrownSpan], MemPlace.row ⟨1, 0, none⟩ 2 ++ (MemPlace.row ⟨7, 0, none⟩ 2), by kernel_rfl⟩

set_option maxRecDepth 100000 in
theorem lifted (os : Os) (started : os.Started) (H : Type) (enc : TypeId × Value → H) (F : Stop.Interp) :
    ReturnsInHanded {} Tryd.checked os 10 .any ((OpenSpec.ofChange Rows.fnExactFacesOfSpec).preRow enc Tryd.prog Tryd.f10 Rows.fnExactFacesOfRow.domain false Rows.fnExactFacesOfRow.laid) (((OpenSpec.ofChange Rows.fnExactFacesOfSpec).at F).post enc Tryd.prog Tryd.f10 false true false false) := by
  obtain ⟨ds, gs, places, hx⟩ := reads os enc
  refine returnsInHanded_of_row (C := Tryd.checked) (s := OpenSpec.ofChange Rows.fnExactFacesOfSpec) own started (by kernel_rfl) Tryd.func10
    (witness_row_at (enc := enc) (C := Tryd.checked) false (laidWorldDi os) #[.int .i64 0, .int .i64 0] rfl (by kernel_rfl) (by kernel_rfl) (by kernel_rfl)
      (OpenSpec.preRow_of_cond 8 hx (by kernel_rfl) (fun k hk => by cases hk) (by kernel_rfl) (laid_met os))) ?_
  intro W base args ds gs before hval hW _ _ _ hL _ _
  exact contract H enc W base args ds gs before hval hW hL

theorem said : Rows.FnExactFacesOfSaid :=
  OpenClaim.holds_of_cond 10 Tryd.f10 rfl rfl rfl rfl rfl rfl rfl ⟨rfl, rfl, rfl, rfl, rfl⟩ rfl rfl rfl rfl rfl (by kernel_rfl) Tryd.func10 (by kernel_rfl)
    (of_decide_eq_true (by kernel_rfl)) (by unfold Func.isWrapper; first | (rw [if_pos (by decide +kernel)]; kernel_rfl) | (rw [if_neg (by decide +kernel)]; exact ⟨rfl, rfl⟩))
    (fun os started H enc _ F => by rw [OpenClaim.pre_eq_preRow]; exact lifted os started H enc F)

theorem plain (f : FuncId) (fn : Func) (hf : Tryd.pinned.checked.prog.funcNamed "loop.example/g00886/laws.FnExactFacesOf" = some f) (hfn : Tryd.pinned.checked.prog.funcs[f]? = some fn) :
    false = Tryd.pinned.checked.prog.looks [] ∧ ∀ (j : Nat) t, fn.params[j]? = some t → Tryd.pinned.checked.prog.wantsStandIn t = false := by
  obtain rfl : f = 10 := Option.some.inj ((show Tryd.prog.funcNamed "loop.example/g00886/laws.FnExactFacesOf" = some 10 by kernel_rfl).symm.trans hf) |>.symm
  obtain rfl : fn = Tryd.f10 := (Option.some.inj (Tryd.func10.symm.trans hfn)).symm
  refine ⟨by kernel_rfl, fun j t ht => ?_⟩
  rw [Tryd.params10] at ht
  have hm := Array.mem_of_getElem? ht
  simp only [List.mem_toArray, List.mem_cons, List.not_mem_nil, or_false] at hm
  rcases hm with rfl | rfl
  · exact (show Tryd.prog.wantsStandIn 3 = false by kernel_rfl)
  · exact (show Tryd.prog.wantsStandIn 3 = false by kernel_rfl)

/-- The card: the row, with what it lists tied to the program's text. -/
theorem card : Rows.FnExactFacesOfCardSaid :=
  Claim7.holds_tied_plain_at .later [] _ _ _ _ said (fun _ h => by cases h) (by kernel_rfl) (fun _ h => by cases h) fnExactFacesOf_row_tie rfl ⟨rfl, rfl⟩ (by kernel_rfl) rfl plain (by kernel_rfl)
#print axioms card

end Go.Proofs.YtjelgohdjmcoiaaDoor.facesOfLaw
