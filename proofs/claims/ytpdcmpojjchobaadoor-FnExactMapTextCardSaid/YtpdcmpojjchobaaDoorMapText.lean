/-
  The law on MapText holds at every argument: the program's answer is the reference's, and the argument reads as before. The named variables hold what the program's text lays (the card ties them).
-/
import Derived.Test.YtpdcmpojjchobaaDoorMpU
import Derived.Test.YtpdcmpojjchobaaDoorFcMapText
import Derived.Test.YtpdcmpojjchobaaDoorBud
namespace Go.Proofs.YtpdcmpojjchobaaDoor.mapTextLaw
open Go.ChangeShapes Go.WideShapes Go.ChangeAt Go.RowKit Go.Joins

set_option maxRecDepth 100000 in
set_option maxHeartbeats 16000000 in
theorem walk (W H : Int) (t r d : Value) (lt lr ld : List Int) (w : World) (hs : SpM w) (hr : Reads w t r d lt lr ld) :
    Calls Tryd.prog 6 #[mp W H t r d] w fun e w' => e = .returned (.bool true) ∧ Kp w w' := by
  by_cases hbig : lt.length + lr.length + ld.length ≤ 1048576
  · have HL := Lib.hid (hr.lists hbig)
    have HS := Lib.hid hs
    obtain ⟨B, hB⟩ : ∃ B, B = mapOk W H lt lr ld := ⟨_, rfl⟩
    obtain ⟨U, hU⟩ : ∃ U, U = mtT (mapOk W H lt lr ld) W H lt lr ld := ⟨_, rfl⟩
    have CS := Lib.hid (fun t r d w hL => specMapText_any W H t r d lt lr ld w hL)
    have CI := Lib.hid (fun A1 A2 A3 nt c1 nr c2 nd c3 w hs hL h1 h2 => implMapText_any W H A1 A2 A3 nt c1 nr c2 nd c3 lt lr ld w hs hL h1 h2)
    rw [← hU, ← hB] at CS CI
    have eB : (B != B) = false := by simp
    obtain ⟨At, ct, rfl, _⟩ := hr.rt
    obtain ⟨Ar, cr, rfl, _⟩ := hr.rr
    obtain ⟨Ad, cd, rfl, _⟩ := hr.rd
    obtain ⟨S0, hS0⟩ : ∃ S0, szTot lt.length lr.length ld.length = S0 := ⟨_, rfl⟩
    have hs0 : 0 ≤ S0 := by rw [← hS0]; unfold szTot; rw [if_pos hbig]; omega
    have CZ := Lib.hid (fun w => szMap_s W H At Ar Ad lt.length ct lr.length cr ld.length cd S0 w hr.bt hr.br hr.bd hS0)
    obtain ⟨nt, hnt⟩ : ∃ n, lt.length = n := ⟨_, rfl⟩
    obtain ⟨nr, hnr⟩ : ∃ n, lr.length = n := ⟨_, rfl⟩
    obtain ⟨nd, hnd⟩ : ∃ n, ld.length = n := ⟨_, rfl⟩
    have CT := Lib.hid (fun t r d w (h : Lists w t r d lt lr ld) => toMap_sl W H t r d lt lr ld nt nr nd w h hnt hnr hnd)
    rw [hnt, hnr, hnd] at HL CZ ⊢
    have HNT := Lib.hid hnt
    clear hr hs hS0 hbig hnt hnr hnd hB hU
    have s0 := new5 w (.int .i64 W) (.int .i64 H) (.slice At nt ct) (.slice Ar nr cr) (.slice Ad nd cd) 40
    go_enter Tryd.func6, Tryd.ntmps6
    go_wp2_with fail
    refine (CZ.out _).mono ?_
    rintro e1 w1 ⟨rfl, k1⟩
    have s1 := keep5 k1 s0
    clear s0 k1
    go_wp2_with fail
    refine (CT.out _ _ _ _ (HL.out.keep s1.2.2.2.2.2)).mono ?_
    rintro e2 w2 ⟨A1, a1, A2, a2, A3, a3, rfl, o2, k2⟩
    have s2 := keep5 k2 s1
    have L2 := Lib.hid (o2.lists HL.out)
    clear s1 k2 o2
    go_wp2_with fail
    refine (CS.out _ _ _ _ L2.out).mono ?_
    rintro e3 w3 ⟨rfl, k3⟩
    have s3 := keep5 k3 s2
    clear s2 k3 L2
    go_wp2_with fail
    refine (CT.out _ _ _ _ (HL.out.keep s3.2.2.2.2.2)).mono ?_
    rintro e4 w4 ⟨B1, b1, B2, b2, B3, b3, rfl, o4, k4⟩
    have s4 := box10 (.int .i64 W) (.int .i64 H) (.slice B1 nt b1) (.slice B2 nr b2) (.slice B3 nd b3) 43 (keep5 k4 s3)
    have kb : Kp w4 (w4.alloc (.cells #[.int .i64 W, .int .i64 H, .slice B1 nt b1, .slice B2 nr b2, .slice B3 nd b3] 43)) := (Kp.refl w4).alloc _
    have O4 := Lib.hid (o4.keep kb)
    have hcap := own_cap o4.ot HNT.out
    clear s3 k4 o4 kb
    go_wp2_with fail
    generalize hW4 : w4.alloc (.cells #[.int .i64 W, .int .i64 H, .slice B1 nt b1, .slice B2 nr b2, .slice B3 nd b3] 43) = W4 at *
    clear hW4
    refine (CI.out _ _ _ _ _ _ _ _ _ _ (HS.out.keep s4.1.2.2.2.2.2) (O4.out.lists HL.out) hcap.1 hcap.2).mono ?_
    rintro e6 w6 ⟨rfl, k6⟩
    have s6 := keep10 k6 s4
    have O6 := Lib.hid (O4.out.keep k6)
    clear s4 O4 k6 hcap
    have s7 := drew10 s6
    go_wp2_with fail
    go_region_held3 (fun w' => (w'.cell? ⟨w.heap.size, 0, none⟩ = some (.int .i64 W) ∧ w'.cell? ⟨w.heap.size, 1, none⟩ = some (.int .i64 H) ∧ w'.cell? ⟨w.heap.size, 2, none⟩ = some (.slice At nt ct) ∧ w'.cell? ⟨w.heap.size, 3, none⟩ = some (.slice Ar nr cr) ∧ w'.cell? ⟨w.heap.size, 4, none⟩ = some (.slice Ad nd cd) ∧ Kp w w') ∧ w'.cell? ⟨w4.heap.size, 0, none⟩ = some (.int .i64 W) ∧ w'.cell? ⟨w4.heap.size, 1, none⟩ = some (.int .i64 H) ∧ w'.cell? ⟨w4.heap.size, 2, none⟩ = some (.slice B1 nt b1) ∧ w'.cell? ⟨w4.heap.size, 3, none⟩ = some (.slice B2 nr b2) ∧ w'.cell? ⟨w4.heap.size, 4, none⟩ = some (.slice B3 nd b3) ∧ Kp w w') (first | assumption | exact s7)
      (first
        | (go_at_call 19; refine (CT.out _ _ _ _ (HL.out.keep s7.1.2.2.2.2.2)).mono ?_; rintro e8 w8 ⟨C1, c1, C2, c2, C3, c3, rfl, o8, k8⟩; have s8 := keep10 k8 s7; have L8 := Lib.hid (o8.lists HL.out); have M8 := Lib.hid ((O6.out.keep ((Kp.refl _).drew)).keep k8))
        | (go_at_call 21; refine (eqMap_same _ _ _ _ _ _ _ _ lt lr ld _ (M8.out.lists HL.out) L8.out).mono ?_; rintro e9 w9 ⟨rfl, k9⟩; have s9 := keep10 k9 s8))
    all_goals
      go_wp2_with fail
      go_ret
      exact ⟨rfl, s9.1.2.2.2.2.2⟩
  · obtain ⟨At, ct, rfl, _⟩ := hr.rt
    obtain ⟨Ar, cr, rfl, _⟩ := hr.rr
    obtain ⟨Ad, cd, rfl, _⟩ := hr.rd
    have hS0 : szTot lt.length lr.length ld.length = -1 := by unfold szTot; rw [if_neg hbig]
    have CZ := Lib.hid (fun w => szMap_s W H At Ar Ad lt.length ct lr.length cr ld.length cd (-1) w hr.bt hr.br hr.bd hS0)
    clear hr hs hS0 hbig
    go_enter Tryd.func6, Tryd.ntmps6
    go_wp2_with fail
    refine (CZ.out _).mono ?_
    rintro e1 w1 ⟨rfl, k1⟩
    go_wp2_with fail
    go_ret
    exact ⟨rfl, ((Kp.refl _).alloc _).trans k1⟩

set_option maxRecDepth 100000 in
theorem contract (H : Type) (enc : TypeId × Value → H) (W : World) (base : Nat) (args : Array Value) (ds gs : List (DataW H)) (before : List MemPlace)
    (hval : ∀ (j : Nat) t v, Tryd.f6.params[j]? = some t → args[j]? = some v → Value.okWide Tryd.prog W .any base t v)
    (hW : DataW.Whole enc Tryd.prog Tryd.f6.params.toList Rows.fnExactMapTextSpec.vars false W args.toList ds gs before) (hL : laidMetH Tryd.prog Rows.fnExactMapTextRow.laid W) :
    Calls Tryd.prog 6 args W fun e W' => ∃ v, e = .returned v ∧ Rows.fnExactMapTextSpec.post enc Tryd.prog Tryd.f6 false true false false W args v W' := by
  have hW' := hW
  obtain ⟨p, q, hA0, hV, rfl, hfz, hnd⟩ := hW
  have hA : DataW.TrodAll enc Tryd.prog W 0 (fun _ => true) true Tryd.f6.params.toList args.toList ds p := hA0
  rw [Tryd.params6] at hA hval
  obtain ⟨v0, d0, rfl, rfl, h0⟩ := trodAll_one hA
  obtain ⟨_, _, rfl⟩ := lenv2 (trodVars_len hV)
  obtain ⟨W0, H0, t0, r0, d0, lt0, lr0, ld0, rfl, hR0⟩ := open_map5 (hval 0 40 v0 rfl rfl) h0
  refine (walk W0 H0 t0 r0 d0 lt0 lr0 ld0 W (mapText_of hL) hR0).mono fun e W' ⟨he, hg⟩ => ?_
  subst he
  exact ⟨_, rfl, law_post hW' laidOut (by kernel_rfl) (by kernel_rfl) (by kernel_rfl) Tryd.underlying4 rfl hg⟩

theorem laid_met (os : Os) : laidMet Tryd.prog Rows.fnExactMapTextRow.laid ((laidWorldK os).forCall (fun _ _ => 0) ⟨#[], #[.agg #[.int .i64 0, .int .i64 0, .slice none 0 0, .slice none 0 0, .slice none 0 0]], []⟩).memory :=
  laidMet_of_run' 8 (by kernel_rfl) (by kernel_rfl)
theorem reads (os : Os) {H : Type} (enc : TypeId × Value → H) : ∃ ds gs places, DataW.whole enc Tryd.prog ((laidWorldK os).forCall (fun _ _ => 0) ⟨#[], #[.agg #[.int .i64 0, .int .i64 0, .slice none 0 0, .slice none 0 0, .slice none 0 0]], []⟩).memory Tryd.f6.params.toList Rows.fnExactMapTextSpec.vars false #[.agg #[.int .i64 0, .int .i64 0, .slice none 0 0, .slice none 0 0, .slice none 0 0]].toList 8 = some (ds, gs, places) :=
  ⟨[.agg [.lit (.int .i64 0), .lit (.int .i64 0), .nil, .nil, .nil]], [Rows.laid_loop_example_g00886_impl_edgeListNames, Rows.laid_loop_example_g00886_impl_directionSteps], MemPlace.row ⟨1, 0, none⟩ 2 ++ (MemPlace.row ⟨19, 0, none⟩ 12), by kernel_rfl⟩

set_option maxRecDepth 100000 in
theorem lifted (os : Os) (started : os.Started) (H : Type) (enc : TypeId × Value → H) (F : Stop.Interp) :
    ReturnsInHanded {} Tryd.checked os 6 .any ((OpenSpec.ofChange Rows.fnExactMapTextSpec).preRow enc Tryd.prog Tryd.f6 Rows.fnExactMapTextRow.domain false Rows.fnExactMapTextRow.laid) (((OpenSpec.ofChange Rows.fnExactMapTextSpec).at F).post enc Tryd.prog Tryd.f6 false true false false) := by
  obtain ⟨ds, gs, places, hx⟩ := reads os enc
  refine returnsInHanded_of_row (C := Tryd.checked) (s := OpenSpec.ofChange Rows.fnExactMapTextSpec) own started (by kernel_rfl) Tryd.func6
    (witness_row_at (enc := enc) (C := Tryd.checked) false (laidWorldK os) #[.agg #[.int .i64 0, .int .i64 0, .slice none 0 0, .slice none 0 0, .slice none 0 0]] rfl (by kernel_rfl) (by kernel_rfl) (by kernel_rfl)
      (OpenSpec.preRow_of_cond 8 hx (by kernel_rfl) (fun k hk => by cases hk) (by kernel_rfl) (laid_met os))) ?_
  intro W base args ds gs before hval hW _ _ _ hL _ _
  exact contract H enc W base args ds gs before hval hW hL

theorem said : Rows.FnExactMapTextSaid :=
  OpenClaim.holds_of_cond 6 Tryd.f6 rfl rfl rfl rfl rfl rfl rfl ⟨rfl, rfl, rfl, rfl, rfl⟩ rfl rfl rfl rfl rfl (by kernel_rfl) Tryd.func6 mapTextFacts.closed
    (of_decide_eq_true (by kernel_rfl)) (by unfold Func.isWrapper; first | (rw [if_pos (by decide +kernel)]; kernel_rfl) | (rw [if_neg (by decide +kernel)]; exact ⟨rfl, rfl⟩))
    (fun os started H enc _ F => by rw [OpenClaim.pre_eq_preRow]; exact lifted os started H enc F)

theorem plain (f : FuncId) (fn : Func) (hf : Tryd.pinned.checked.prog.funcNamed "loop.example/g00886/laws.FnExactMapText" = some f) (hfn : Tryd.pinned.checked.prog.funcs[f]? = some fn) :
    true = Tryd.pinned.checked.prog.looks [] ∧ ∀ (j : Nat) t, fn.params[j]? = some t → Tryd.pinned.checked.prog.wantsStandIn t = false := by
  obtain rfl : f = 6 := Option.some.inj ((show Tryd.prog.funcNamed "loop.example/g00886/laws.FnExactMapText" = some 6 by kernel_rfl).symm.trans hf) |>.symm
  obtain rfl : fn = Tryd.f6 := (Option.some.inj (Tryd.func6.symm.trans hfn)).symm
  refine ⟨by kernel_rfl, fun j t ht => ?_⟩
  rw [Tryd.params6] at ht
  have hm := Array.mem_of_getElem? ht
  simp only [List.mem_toArray, List.mem_cons, List.not_mem_nil, or_false] at hm
  subst hm
  exact (show Tryd.prog.wantsStandIn 40 = false by kernel_rfl)

/-- The card: the row, with what it lists tied to the program's text. -/
theorem card : Rows.FnExactMapTextCardSaid :=
  Claim7.holds_tied_plain_at .later [] _ _ _ _ said (fun _ h => by cases h) (by kernel_rfl) (fun _ h => by cases h) fnExactMapText_row_tie rfl ⟨rfl, rfl⟩ (by kernel_rfl) rfl plain (by kernel_rfl)
#print axioms card

end Go.Proofs.YtpdcmpojjchobaaDoor.mapTextLaw
