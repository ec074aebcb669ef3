/-
  The law on WalkFrom holds at every hex and every path: the program's list is the reference's, in memory of its own, and the arguments read as before. The table of directions holds what the program's text lays (the card ties it).
-/
import Derived.Test.YtaakimjkfbpjdaaDoorTab
import Derived.Test.YtaakimjkfbpjdaaDoorOpenI
import Derived.Test.YtaakimjkfbpjdaaDoorWalkImpl
import Derived.Test.YtaakimjkfbpjdaaDoorWalkSpec
namespace Go.Proofs.YtaakimjkfbpjdaaDoor.walkFromLaw
open Go.ChangeShapes Go.WideShapes Go.ChangeAt Go.RowKit Go.Joins

theorem short (q r : Int) (l : List Int) : (if walkOk l q r = true then walkUp l q r l.length else []).length ≤ 100 := by
  split
  · rename_i h
    simp only [walkOk, Bool.and_eq_true, decide_eq_true_eq] at h
    rw [walkUp_length]
    omega
  · simp

set_option maxHeartbeats 8000000 in
theorem walk (q r : Int) (v : Value) (l : List Int) (w : World) (ht : Tab w) (hr : RdI w v l) :
    Calls Tryd.prog 5 #[hx q r, v] w fun e w' => e = .returned (.bool true) ∧ Kp w w' := by
  by_cases hbig : l.length ≤ 1048576
  · have HT := Lib.hid ht
    have HR := Lib.hid hr
    have hlen := short q r l
    have CS := Lib.hid (fun v w h => specWalkFrom_any q r v l w h hbig)
    have CI := Lib.hid (fun v w ht h => walkFrom_any q r v l w ht h hbig)
    have CT := Lib.hid (fun v w h => toIntS_any v l w h hbig)
    unfold ListPost at CS CI
    generalize (if walkOk l q r = true then walkUp l q r l.length else []) = L at CS CI hlen
    generalize walkOk l q r = B at CS CI
    have hle : ¬ (1048576 : Int) < (l.length : Int) := by omega
    obtain ⟨A, c, rfl, _⟩ := hr
    clear ht
    go_enter Tryd.func5, Tryd.ntmps5
    go_wp2_with fail
    refine (toHex_any _ _ _).mono ?_
    rintro e wa ⟨rfl, ka⟩
    have b0 : wa.cell? ⟨w.heap.size, 0, none⟩ = some (.int .i64 q) := ka.cell (by simp [go_sem])
    have b1 : wa.cell? ⟨w.heap.size, 1, none⟩ = some (.int .i64 r) := ka.cell (by simp [go_sem])
    have K1 : Kp w wa := ((Kp.refl _).alloc _).trans ka
    clear ka
    go_wp2_with fail
    refine (CT.out _ _ (HR.out.keep K1)).mono ?_
    rintro e wb ⟨p0, rfl, op0, kb⟩
    have RP0 := Lib.hid op0.rd
    clear op0
    go_wp2_with fail
    refine (CS.out _ _ RP0.out).mono ?_
    rintro e wc ⟨v0, rfl, o0, kc⟩
    have R0 := Lib.hid o0.rd
    have b2 := kc.two (kb.two ⟨b0, b1⟩)
    have K2 : Kp w wc := (K1.trans kb).trans kc
    clear o0 b0 b1
    go_wp2_with fail
    refine (CT.out _ _ (HR.out.keep K2)).mono ?_
    rintro e wd ⟨x1, rfl, ox1, kd⟩
    have OX := Lib.hid ox1
    have b3 := kd.two b2
    clear ox1
    go_wp2_with fail
    refine (toHex_any _ _ _).mono ?_
    rintro e we ⟨rfl, ke⟩
    have OX2 := Lib.hid (OX.out.keep ke)
    clear b3
    go_wp2_with fail
    refine (CI.out _ _ (HT.out.keep (K2.trans (kd.trans ke))) OX2.out.rd).mono ?_
    rintro e wf ⟨v1, rfl, o1, kf⟩
    have O1 := Lib.hid o1
    clear o1
    have KF : Kp wc wf := (kd.trans ke).trans kf
    go_wp2_with fail
    refine (eqHexS_same v1 v0 L _ O1.out.rd (R0.out.keep KF) (by omega)).mono ?_
    rintro e wg ⟨rfl, kg⟩
    have KG := KF.trans kg
    go_wp2_with fail
    refine (CT.out _ _ (HR.out.keep (K2.trans KG))).mono ?_
    rintro e wh ⟨x2, rfl, ox2, kh⟩
    have OX3 := Lib.hid (((OX2.out.keep kf).keep kg).keep kh)
    have RX2 := Lib.hid ox2.rd
    clear ox2
    go_wp2_with fail
    refine (eqIntS_same x1 x2 l _ OX3.out.rd RX2.out hbig).mono ?_
    rintro e wi ⟨rfl, ki⟩
    have OX4 := Lib.hid (OX3.out.keep ki)
    have O2 := Lib.hid (((O1.out.keep kg).keep kh).keep ki)
    have KI : Kp wc wi := (KG.trans kh).trans ki
    go_wp2_with fail
    refine (markIntS_any x1 l.length wc.heap.size (cellsI l) _ hbig OX4.out).mono ?_
    rintro e wj ⟨rfl, gj⟩
    have KJ : Kp wc wj := KI.grown gj (fun k e => (World.ownsRow.lt OX4.out k e).1)
    have O3 : Hid (OwnH wj we.heap.size v1 L) := Lib.hid (World.ownsRow.kept O2.out gj (by
      cases hv : v1.ownBlock
      · exact .inl rfl
      · rename_i k
        refine .inr fun e => ?_
        have h1 := (World.ownsRow.lt O2.out k hv).1
        have h2 := (World.ownsRow.lt OX2.out k e.symm).2
        omega))
    clear gj
    have hk0 : ¬ (1 + (l.length : Int)) < 0 := by omega
    have HB2 := Lib.hid b2
    clear b2
    go_wp2_with fail
    refine (eqHexS_same v1 v0 L _ O3.out.rd (R0.out.keep KJ) (by omega)).mono ?_
    rintro e wk ⟨rfl, kk⟩
    have O4 := Lib.hid (O3.out.keep kk)
    have KK := KJ.trans kk
    have hce : wc.heap.size ≤ we.heap.size := (kd.trans ke).size
    go_wp2_with fail
    refine (markHexS_any v1 L.length we.heap.size (cellsH L) _ (by omega) O4.out).mono ?_
    rintro e wl ⟨rfl, om, gm⟩
    have KM : Kp wc wl := KK.grown gm (fun k e => Nat.le_trans hce (World.ownsRow.lt O4.out k e).1)
    have OM := Lib.hid om
    have hne : ((1 + 2 * (L.length : Int)) != (1 + 2 * (L.length : Int))) = false := by simp
    have b5 := KM.two HB2.out
    clear om gm
    go_wp2_with fail
    refine (heldHexS_any v1 L.length we.heap.size _ (by omega) OM.out).mono ?_
    rintro e wm ⟨rfl, rfl⟩
    go_wp2_with fail
    refine (toHex_any _ _ _).mono ?_
    rintro e wm ⟨rfl, km⟩
    go_wp2_with fail
    refine (CT.out _ _ (HR.out.keep ((K2.trans KM).trans km))).mono ?_
    rintro e wn ⟨x3, rfl, ox3, kn⟩
    have RX3 := Lib.hid ox3.rd
    clear ox3
    have KN : Kp wl wn := km.trans kn
    go_wp2_with fail
    refine (CI.out _ _ (HT.out.keep ((K2.trans KM).trans KN)) RX3.out).mono ?_
    rintro e wo ⟨v2, rfl, o5, ko⟩
    have O5 := Lib.hid o5
    clear o5
    have KO : Kp wl wo := KN.trans ko
    go_wp2_with fail
    refine (eqHexS_same v2 v0 L _ O5.out.rd (R0.out.keep (KM.trans KO)) (by omega)).mono ?_
    rintro e wp ⟨rfl, kp⟩
    have KP : Kp wl wp := KO.trans kp
    have OM2 := Lib.hid (ownsRow_keep OM.out KP)
    go_wp2_with fail
    refine (heldHexS_any v1 L.length we.heap.size _ (by omega) OM2.out).mono ?_
    rintro e wq ⟨rfl, rfl⟩
    go_wp2
    go_ret
    exact ⟨rfl, (K2.trans KM).trans KP⟩
  · have hle : (1048576 : Int) < (l.length : Int) := by omega
    obtain ⟨A, c, rfl, _⟩ := hr
    go_enter Tryd.func5, Tryd.ntmps5
    go_wp2_with fail
    go_ret
    exact ⟨rfl, (Kp.refl _).alloc _⟩

theorem contract (H : Type) (enc : TypeId × Value → H) (W : World) (base : Nat) (args : Array Value) (ds gs : List (DataW H)) (before : List MemPlace)
    (hval : ∀ (j : Nat) t v, Tryd.f5.params[j]? = some t → args[j]? = some v → Value.okWide Tryd.prog W .any base t v)
    (hW : DataW.Whole enc Tryd.prog Tryd.f5.params.toList Rows.fnExactWalkFromSpec.vars false W args.toList ds gs before) (hL : laidMetH Tryd.prog Rows.fnExactWalkFromRow.laid W) :
    Calls Tryd.prog 5 args W fun e W' => ∃ v, e = .returned v ∧ Rows.fnExactWalkFromSpec.post enc Tryd.prog Tryd.f5 false true false false W args v W' := by
  have hW' := hW
  obtain ⟨p, q, hA0, hV, rfl, hfz, hnd⟩ := hW
  have hA : DataW.TrodAll enc Tryd.prog W 0 (fun _ => true) true Tryd.f5.params.toList args.toList ds p := hA0
  rw [Tryd.params5] at hA hval
  obtain ⟨v0, v1, d0, d1, p0, p1, rfl, rfl, rfl, h0, h1⟩ := trodAll_two hA
  obtain ⟨_, _, _, _, g0, _, rfl, _, _, _, _, _⟩ := trodVars_one hV
  obtain ⟨q0, r0, rfl, _, _⟩ := open_hex (hval 0 23 v0 rfl rfl) h0
  obtain ⟨l1, hl1⟩ := rdI_of_trod (hval 1 33 v1 rfl rfl) h1
  refine (walk q0 r0 v1 l1 W (tab_of_laid hL) hl1).mono fun e W' ⟨he, hg⟩ => ?_
  subst he
  exact ⟨_, rfl, law_post hW' laidOut (by kernel_rfl) (by kernel_rfl) (by kernel_rfl) Tryd.underlying4 rfl hg⟩

theorem laid_met (os : Os) : laidMet Tryd.prog Rows.fnExactWalkFromRow.laid ((laidWorld os).forCall (fun _ _ => 0) ⟨#[], #[.agg #[.int .i64 0, .int .i64 0], .slice none 0 0], []⟩).memory :=
  laidMet_of_run' 8 (by kernel_rfl) (by kernel_rfl)
theorem reads (os : Os) {H : Type} (enc : TypeId × Value → H) : ∃ ds gs places, DataW.whole enc Tryd.prog ((laidWorld os).forCall (fun _ _ => 0) ⟨#[], #[.agg #[.int .i64 0, .int .i64 0], .slice none 0 0], []⟩).memory Tryd.f5.params.toList Rows.fnExactWalkFromSpec.vars false #[.agg #[.int .i64 0, .int .i64 0], .slice none 0 0].toList 8 = some (ds, gs, places) :=
  ⟨[.agg [.lit (.int .i64 0), .lit (.int .i64 0)], .nil], [Rows.laid_loop_example_g00886_impl_directionSteps], MemPlace.row ⟨0, 0, none⟩ 12, by kernel_rfl⟩

set_option maxRecDepth 100000 in
theorem lifted (os : Os) (started : os.Started) (H : Type) (enc : TypeId × Value → H) (F : Stop.Interp) :
    ReturnsInHanded {} Tryd.checked os 5 .any ((OpenSpec.ofChange Rows.fnExactWalkFromSpec).preRow enc Tryd.prog Tryd.f5 Rows.fnExactWalkFromRow.domain false Rows.fnExactWalkFromRow.laid) (((OpenSpec.ofChange Rows.fnExactWalkFromSpec).at F).post enc Tryd.prog Tryd.f5 false true false false) := by
  obtain ⟨ds, gs, places, hx⟩ := reads os enc
  refine returnsInHanded_of_row (C := Tryd.checked) (s := OpenSpec.ofChange Rows.fnExactWalkFromSpec) own started (by kernel_rfl) Tryd.func5
    (witness_row_at (enc := enc) (C := Tryd.checked) false (laidWorld os) #[.agg #[.int .i64 0, .int .i64 0], .slice none 0 0] rfl (by kernel_rfl) (by kernel_rfl) (by kernel_rfl)
      (OpenSpec.preRow_of_cond 8 hx (by kernel_rfl) (fun k hk => by cases hk) (by kernel_rfl) (laid_met os))) ?_
  intro W base args ds gs before hval hW _ _ _ hL _ _
  exact contract H enc W base args ds gs before hval hW hL

theorem said : Rows.FnExactWalkFromSaid :=
  OpenClaim.holds_of_cond 5 Tryd.f5 rfl rfl rfl rfl rfl rfl rfl ⟨rfl, rfl, rfl, rfl, rfl⟩ rfl rfl rfl rfl rfl (by kernel_rfl) Tryd.func5 (by kernel_rfl)
    (of_decide_eq_true (by kernel_rfl)) (by unfold Func.isWrapper; first | (rw [if_pos (by decide +kernel)]; kernel_rfl) | (rw [if_neg (by decide +kernel)]; exact ⟨rfl, rfl⟩))
    (fun os started H enc _ F => by rw [OpenClaim.pre_eq_preRow]; exact lifted os started H enc F)

theorem plain (f : FuncId) (fn : Func) (hf : Tryd.pinned.checked.prog.funcNamed "loop.example/g00886/laws.FnExactWalkFrom" = some f) (hfn : Tryd.pinned.checked.prog.funcs[f]? = some fn) :
    false = Tryd.pinned.checked.prog.looks [] ∧ ∀ (j : Nat) t, fn.params[j]? = some t → Tryd.pinned.checked.prog.wantsStandIn t = false := by
  obtain rfl : f = 5 := Option.some.inj ((show Tryd.prog.funcNamed "loop.example/g00886/laws.FnExactWalkFrom" = some 5 by kernel_rfl).symm.trans hf) |>.symm
  obtain rfl : fn = Tryd.f5 := (Option.some.inj (Tryd.func5.symm.trans hfn)).symm
  refine ⟨by kernel_rfl, fun j t ht => ?_⟩
  rw [Tryd.params5] at ht
  have hm := Array.mem_of_getElem? ht
  simp only [List.mem_toArray, List.mem_cons, List.not_mem_nil, or_false] at hm
  rcases hm with rfl | rfl
  · exact (show Tryd.prog.wantsStandIn 23 = false by kernel_rfl)
  · exact (show Tryd.prog.wantsStandIn 33 = false by kernel_rfl)

/-- The card: the row, with what it lists tied to the program's text. -/
theorem card : Rows.FnExactWalkFromCardSaid :=
  Claim7.holds_tied_plain_at .later [] _ _ _ _ said (fun _ h => by cases h) (by kernel_rfl) (fun _ h => by cases h) fnExactWalkFrom_row_tie rfl ⟨rfl, rfl⟩ (by kernel_rfl) rfl plain (by kernel_rfl)
#print axioms card
end Go.Proofs.YtaakimjkfbpjdaaDoor.walkFromLaw
