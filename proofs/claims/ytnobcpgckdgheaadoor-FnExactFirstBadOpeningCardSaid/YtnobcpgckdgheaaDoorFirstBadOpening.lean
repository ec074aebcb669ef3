/-
  The law on FirstBadOpening holds at every list of seals and every list of openings: the program's answer is the reference's, and both lists are left as they were. The named variables hold what the program's text lays (the card ties them).
-/
import Derived.Test.YtnobcpgckdgheaaDoorSlT
import Derived.Test.YtnobcpgckdgheaaDoorTabV
import Derived.Test.YtnobcpgckdgheaaDoorTabSl
namespace Go.Proofs.YtnobcpgckdgheaaDoor.firstBadOpeningLaw
open Go.ChangeShapes Go.WideShapes Go.ChangeAt Go.RowKit Go.Joins

set_option maxRecDepth 100000 in
theorem rdSea_of {H : Type} {enc : TypeId × Value → H} {W : World} {base : Nat} {v : Value} {d : DataW H} {p : List MemPlace}
    (hv : Value.okWide Tryd.prog W .any base 40 v) (h : DataW.Trod enc Tryd.prog W 0 (fun _ => true) true 40 v d p) : ∃ l : List Sea, RdSl W v l ∧ l.length ≤ 9223372036854775807 ∧ ∀ x ∈ l, SeaI x := by
  obtain ⟨a0, len, cap, rfl⟩ := okWide_slice Tryd.underlying40 hv
  obtain ⟨n, hf⟩ := h
  exact rdSl_of_trod hf
set_option maxRecDepth 100000 in
theorem rdOpn_of {H : Type} {enc : TypeId × Value → H} {W : World} {base : Nat} {v : Value} {d : DataW H} {p : List MemPlace}
    (hv : Value.okWide Tryd.prog W .any base 41 v) (h : DataW.Trod enc Tryd.prog W 0 (fun _ => true) true 41 v d p) : ∃ l : List Opn, RdOp W v l ∧ l.length ≤ 9223372036854775807 ∧ ∀ x ∈ l, OpnI x := by
  obtain ⟨a0, len, cap, rfl⟩ := okWide_slice Tryd.underlying41 hv
  obtain ⟨n, hf⟩ := h
  exact rdOp_of_trod hf
set_option maxRecDepth 100000 in
set_option maxHeartbeats 16000000 in
theorem walk (v u : Value) (l : List Sea) (c : List Opn) (w : World) (h : RdSl w v l) (hu : RdOp w u c) (hlen : l.length ≤ 9223372036854775807) (hclen : c.length ≤ 9223372036854775807) (hcI : ∀ x ∈ c, OpnI x) (g0 : SpanAt w 4 0 4) (g1 : SpanAt w 0 0 30) (g2 : SpanAt w 1 0 1) (g3 : SpanAt w 2 0 4611686016279904236) (g4 : SpanAt w 3 0 150) (gu : Lib.Utf8Tabs 6 7 w) :
    Calls Tryd.prog 6 #[v, u] w fun e' w' => e' = .returned (.bool true) ∧ Kp w w' := by
  have HG := Lib.hid (show SpanAt w 4 0 4 ∧ SpanAt w 0 0 30 ∧ SpanAt w 1 0 1 ∧ SpanAt w 2 0 4611686016279904236 ∧ SpanAt w 3 0 150 ∧ Lib.Utf8Tabs 6 7 w from ⟨g0, g1, g2, g3, g4, gu⟩)
  by_cases hl : l.length ≤ 1048576
  · have CZ := Lib.hid (fun A c w => szSealedS_yes A l.length c 1048576 w (by omega) (by omega) (by omega))
    have CY := Lib.hid (fun v w h => szOpeningS_any v c (1048576 - (l.length : Int)) w h hclen hcI (by omega) (by omega))
    have CT := Lib.hid (fun w h => toSealedS_any v l w h hl)
    have CU := Lib.hid (fun w h (hc : c.length ≤ 1048576) => toOpeningS_any u c w h hc)
    have CI := Lib.hid (fun (v u : Value) (w : World) (h : RdSl w v l) (hu : RdOp w u c) (hc : c.length ≤ 1048576) (g : SpanAt w 4 0 4 ∧ SpanAt w 0 0 30 ∧ SpanAt w 1 0 1 ∧ SpanAt w 2 0 4611686016279904236 ∧ SpanAt w 3 0 150 ∧ Lib.Utf8Tabs 6 7 w) => firstBadOpeningP_any v u l c w h hu hl hc g.2.1 g.2.2.1 g.2.2.2.1 g.2.2.2.2.1 g.1 g.2.2.2.2.2)
    have CS := Lib.hid (fun v u w h hu (hc : c.length ≤ 1048576) => firstBadOpeningS_any v u l c w h hu hl hc)
    have HR := Lib.hid h
    have HU := Lib.hid hu
    have CE := Lib.hid (fun va vb w ha hb => eqSealedS_same va vb l w ha hb hl)
    have CF := Lib.hid (fun va vb w ha hb (hc : c.length ≤ 1048576) => eqOpeningS_same va vb c w ha hb hc)
    obtain ⟨A, ca, rfl, -⟩ := h
    obtain ⟨B, cb, rfl, -⟩ := hu
    generalize fboB l c = F at CI CS
    generalize ((fstK (noP l c) 0 l.length : Nat) : Int) = X at CI CS
    have eB : (F != F) = false := by simp
    have eX : (vI F X != vI F X) = false := by simp
    generalize vI F X = Y at *
    obtain ⟨n, hn⟩ : ∃ n, n = l.length := ⟨_, rfl⟩
    obtain ⟨m, hm⟩ : ∃ m, m = c.length := ⟨_, rfl⟩
    have HM := Lib.hid hm
    have hb1 : (n : Int) ≤ 1048576 := by omega
    have hb2 : ¬ (1048576 - (n : Int) < 0) := by omega
    rw [← hn] at CT CZ CY HR hl hlen ⊢
    rw [← hm] at CU HU hclen ⊢
    rw [← hm] at CY CI CS CF
    clear hn hm
    clear g0 g1 g2 g3 g4 gu
    go_enter Tryd.func6, Tryd.ntmps6
    go_wp2_with fail
    refine (CZ.out _ _ _).mono ?_
    rintro e1 w1 ⟨rfl, rfl⟩
    go_wp2_with fail
    refine (CY.out _ _ HU.out).mono ?_
    rintro e2 w2 ⟨r, rfl, hr, k2⟩
    have HR_2 := Lib.hid (HR.out.keep k2)
    clear HR
    have HU_2 := Lib.hid (HU.out.keep k2)
    clear HU
    have K2 := k2
    rcases hr with rfl | ⟨hr0, hc⟩
    · go_wp2_with fail
      go_ret
      exact ⟨rfl, K2⟩
    have hr2 : ¬ r < 0 := by omega
    have hc : m ≤ 1048576 := by omega
    go_wp2_with fail
    refine (CT.out _ HR_2.out).mono ?_
    rintro e3 w3 ⟨g3, rfl, o3, k3⟩
    have HR_3 := Lib.hid (HR_2.out.keep k3)
    clear HR_2
    have HU_3 := Lib.hid (HU_2.out.keep k3)
    clear HU_2
    have K3 := K2.trans k3
    have RA_3 := Lib.hid (o3.rd)
    go_wp2_with fail
    refine (CU.out _ HU_3.out hc).mono ?_
    rintro e4 w4 ⟨g4, rfl, o4, k4⟩
    have HR_4 := Lib.hid (HR_3.out.keep k4)
    clear HR_3
    have HU_4 := Lib.hid (HU_3.out.keep k4)
    clear HU_3
    have RA_4 := Lib.hid (RA_3.out.keep k4)
    clear RA_3
    have K4 := K3.trans k4
    have RB_4 := Lib.hid (o4.rd)
    go_wp2_with fail
    refine (CS.out _ _ _ RA_4.out RB_4.out hc).mono ?_
    rintro e5 w5 ⟨rfl, k5⟩
    have HR_5 := Lib.hid (HR_4.out.keep k5)
    clear HR_4
    have HU_5 := Lib.hid (HU_4.out.keep k5)
    clear HU_4
    have RA_5 := Lib.hid (RA_4.out.keep k5)
    clear RA_4
    have RB_5 := Lib.hid (RB_4.out.keep k5)
    clear RB_4
    have K5 := K4.trans k5
    clear RA_5
    clear RB_5
    go_wp2_with fail
    refine (CT.out _ HR_5.out).mono ?_
    rintro e6 w6 ⟨g6, rfl, o6, k6⟩
    have HR_6 := Lib.hid (HR_5.out.keep k6)
    clear HR_5
    have HU_6 := Lib.hid (HU_5.out.keep k6)
    clear HU_5
    have K6 := K5.trans k6
    have R1_6 := Lib.hid (o6.rd)
    go_wp2_with fail
    refine (CU.out _ HU_6.out hc).mono ?_
    rintro e7 w7 ⟨g7, rfl, o7, k7⟩
    have HR_7 := Lib.hid (HR_6.out.keep k7)
    clear HR_6
    have HU_7 := Lib.hid (HU_6.out.keep k7)
    clear HU_6
    have R1_7 := Lib.hid (R1_6.out.keep k7)
    clear R1_6
    have K7 := K6.trans k7
    have R2_7 := Lib.hid (o7.rd)
    go_wp2_with fail
    refine (CI.out _ _ _ R1_7.out R2_7.out hc ⟨(K7.two HG.out.1), (K7.two HG.out.2.1), (K7.two HG.out.2.2.1), (K7.two HG.out.2.2.2.1), (K7.two HG.out.2.2.2.2.1), (by first | exact Lib.Utf8Tabs_below HG.out.2.2.2.2.2 K7 | exact Utf8Tabs_below HG.out.2.2.2.2.2 K7)⟩).mono ?_
    rintro e8 w8 ⟨rfl, k8⟩
    have HR_8 := Lib.hid (HR_7.out.keep k8)
    clear HR_7
    have HU_8 := Lib.hid (HU_7.out.keep k8)
    clear HU_7
    have R1_8 := Lib.hid (R1_7.out.keep k8)
    clear R1_7
    have R2_8 := Lib.hid (R2_7.out.keep k8)
    clear R2_7
    have K8 := K7.trans k8
    go_wp2_with fail
    refine (CT.out _ HR_8.out).mono ?_
    rintro e9 w9 ⟨g9, rfl, o9, k9⟩
    have HR_9 := Lib.hid (HR_8.out.keep k9)
    clear HR_8
    have HU_9 := Lib.hid (HU_8.out.keep k9)
    clear HU_8
    have R1_9 := Lib.hid (R1_8.out.keep k9)
    clear R1_8
    have R2_9 := Lib.hid (R2_8.out.keep k9)
    clear R2_8
    have K9 := K8.trans k9
    have R3_9 := Lib.hid (o9.rd)
    go_wp2_with fail
    refine (CE.out _ _ _ R1_9.out R3_9.out).mono ?_
    rintro e10 w10 ⟨rfl, k10⟩
    have HR_10 := Lib.hid (HR_9.out.keep k10)
    clear HR_9
    have HU_10 := Lib.hid (HU_9.out.keep k10)
    clear HU_9
    have R1_10 := Lib.hid (R1_9.out.keep k10)
    clear R1_9
    have R2_10 := Lib.hid (R2_9.out.keep k10)
    clear R2_9
    have R3_10 := Lib.hid (R3_9.out.keep k10)
    clear R3_9
    have K10 := K9.trans k10
    go_wp2_with fail
    refine (CU.out _ HU_10.out hc).mono ?_
    rintro e11 w11 ⟨g11, rfl, o11, k11⟩
    have HR_11 := Lib.hid (HR_10.out.keep k11)
    clear HR_10
    have HU_11 := Lib.hid (HU_10.out.keep k11)
    clear HU_10
    have R1_11 := Lib.hid (R1_10.out.keep k11)
    clear R1_10
    have R2_11 := Lib.hid (R2_10.out.keep k11)
    clear R2_10
    have R3_11 := Lib.hid (R3_10.out.keep k11)
    clear R3_10
    have K11 := K10.trans k11
    have R4_11 := Lib.hid (o11.rd)
    go_wp2_with fail
    refine (CF.out _ _ _ R2_11.out R4_11.out hc).mono ?_
    rintro e12 w12 ⟨rfl, k12⟩
    have HR_12 := Lib.hid (HR_11.out.keep k12)
    clear HR_11
    have HU_12 := Lib.hid (HU_11.out.keep k12)
    clear HU_11
    have R1_12 := Lib.hid (R1_11.out.keep k12)
    clear R1_11
    have R2_12 := Lib.hid (R2_11.out.keep k12)
    clear R2_11
    have R3_12 := Lib.hid (R3_11.out.keep k12)
    clear R3_11
    have R4_12 := Lib.hid (R4_11.out.keep k12)
    clear R4_11
    have K12 := K11.trans k12
    go_wp2_with fail
    go_ret
    exact ⟨rfl, K12⟩
  · obtain ⟨A, ca, rfl, -⟩ := h
    obtain ⟨B, cb, rfl, -⟩ := hu
    have CZ := Lib.hid (fun w => szSealedS_no A l.length ca 1048576 w (by omega) (by omega) (by omega) hlen)
    generalize l.length = n at *
    generalize c.length = m at *
    go_enter Tryd.func6, Tryd.ntmps6
    go_wp2_with fail
    refine (CZ.out _).mono ?_
    rintro e1 w1 ⟨rfl, rfl⟩
    go_wp2_with fail
    go_ret
    exact ⟨rfl, Kp.refl _⟩

set_option maxRecDepth 100000 in
theorem contract (H : Type) (enc : TypeId × Value → H) (W : World) (base : Nat) (args : Array Value) (ds gs : List (DataW H)) (before : List MemPlace)
    (hval : ∀ (j : Nat) t v, Tryd.f6.params[j]? = some t → args[j]? = some v → Value.okWide Tryd.prog W .any base t v)
    (hW : DataW.Whole enc Tryd.prog Tryd.f6.params.toList Rows.fnExactFirstBadOpeningSpec.vars false W args.toList ds gs before) (hL : laidMetH Tryd.prog Rows.fnExactFirstBadOpeningRow.laid W) :
    Calls Tryd.prog 6 args W fun e W' => ∃ v, e = .returned v ∧ Rows.fnExactFirstBadOpeningSpec.post enc Tryd.prog Tryd.f6 false true false false W args v W' := by
  have hW' := hW
  obtain ⟨p, q, hA0, hV, rfl, hfz, hnd⟩ := hW
  have hA : DataW.TrodAll enc Tryd.prog W 0 (fun _ => true) true Tryd.f6.params.toList args.toList ds p := hA0
  rw [Tryd.params6] at hA hval
  obtain ⟨v0, v1, d0, d1, p0, p1, rfl, rfl, rfl, h0, h1⟩ := trodAll_two hA
  obtain ⟨_, _, _, _, _, rfl⟩ := lenvD5 (trodVars_len hV)
  obtain ⟨l0, hR0, hl0, _⟩ := rdSea_of (hval 0 40 v0 rfl rfl) h0
  obtain ⟨l1, hR1, hl1, hI1⟩ := rdOpn_of (hval 1 41 v1 rfl rfl) h1
  refine (walk v0 v1 l0 l1 W hR0 hR1 hl0 hl1 hI1 (laidFirstBadOpening hL).1 (laidFirstBadOpening hL).2.1 (laidFirstBadOpening hL).2.2.1 (laidFirstBadOpening hL).2.2.2.1 (laidFirstBadOpening hL).2.2.2.2.1 (laidFirstBadOpening hL).2.2.2.2.2).mono fun e W' ⟨he, hg⟩ => ?_
  subst he
  exact ⟨_, rfl, law_post hW' laidOut (by kernel_rfl) (by kernel_rfl) (by kernel_rfl) Tryd.underlying4 rfl hg⟩

theorem laid_met (os : Os) : laidMet Tryd.prog Rows.fnExactFirstBadOpeningRow.laid ((laidWorldDi os).forCall (fun _ _ => 0) ⟨#[], #[.slice none 0 0, .slice none 0 0], []⟩).memory :=
  laidMet_of_run' 8 (by kernel_rfl) (by kernel_rfl)
theorem reads (os : Os) {H : Type} (enc : TypeId × Value → H) : ∃ ds gs places, DataW.whole enc Tryd.prog ((laidWorldDi os).forCall (fun _ _ => 0) ⟨#[], #[.slice none 0 0, .slice none 0 0], []⟩).memory Tryd.f6.params.toList Rows.fnExactFirstBadOpeningSpec.vars false #[.slice none 0 0, .slice none 0 0].toList 8 = some (ds, gs, places) :=
  ⟨[.nil, .nil], [Rows.laid_loop_example_g00886_impl_roundSpan, Rows.laid_loop_example_g00886_impl_sealTurnSpan, Rows.laid_loop_example_g00886_impl_sideSpan, Rows.laid_loop_example_g00886_impl_seedSpan, Rows.laid_loop_example_g00886_impl_openedTextSpan], MemPlace.row ⟨4, 0, none⟩ 2 ++ (MemPlace.row ⟨0, 0, none⟩ 2 ++ (MemPlace.row ⟨1, 0, none⟩ 2 ++ (MemPlace.row ⟨2, 0, none⟩ 2 ++ (MemPlace.row ⟨3, 0, none⟩ 2)))), by kernel_rfl⟩

set_option maxRecDepth 100000 in
theorem lifted (os : Os) (started : os.Started) (H : Type) (enc : TypeId × Value → H) (F : Stop.Interp) :
    ReturnsInHanded {} Tryd.checked os 6 .any ((OpenSpec.ofChange Rows.fnExactFirstBadOpeningSpec).preRow enc Tryd.prog Tryd.f6 Rows.fnExactFirstBadOpeningRow.domain false Rows.fnExactFirstBadOpeningRow.laid) (((OpenSpec.ofChange Rows.fnExactFirstBadOpeningSpec).at F).post enc Tryd.prog Tryd.f6 false true false false) := by
  obtain ⟨ds, gs, places, hx⟩ := reads os enc
  refine returnsInHanded_of_row (C := Tryd.checked) (s := OpenSpec.ofChange Rows.fnExactFirstBadOpeningSpec) own started (by kernel_rfl) Tryd.func6
    (witness_row_at (enc := enc) (C := Tryd.checked) false (laidWorldDi os) #[.slice none 0 0, .slice none 0 0] rfl (by kernel_rfl) (by kernel_rfl) (by kernel_rfl)
      (OpenSpec.preRow_of_cond 8 hx (by kernel_rfl) (fun k hk => by cases hk) (by kernel_rfl) (laid_met os))) ?_
  intro W base args ds gs before hval hW _ _ _ hL _ _
  exact contract H enc W base args ds gs before hval hW hL

theorem said : Rows.FnExactFirstBadOpeningSaid :=
  OpenClaim.holds_of_cond 6 Tryd.f6 rfl rfl rfl rfl rfl rfl rfl ⟨rfl, rfl, rfl, rfl, rfl⟩ rfl rfl rfl rfl rfl (by kernel_rfl) Tryd.func6 (by kernel_rfl)
    (of_decide_eq_true (by kernel_rfl)) (by unfold Func.isWrapper; first | (rw [if_pos (by decide +kernel)]; kernel_rfl) | (rw [if_neg (by decide +kernel)]; exact ⟨rfl, rfl⟩))
    (fun os started H enc _ F => by rw [OpenClaim.pre_eq_preRow]; exact lifted os started H enc F)

theorem plain (f : FuncId) (fn : Func) (hf : Tryd.pinned.checked.prog.funcNamed "loop.example/g00886/laws.FnExactFirstBadOpening" = some f) (hfn : Tryd.pinned.checked.prog.funcs[f]? = some fn) :
    false = Tryd.pinned.checked.prog.looks [] ∧ ∀ (j : Nat) t, fn.params[j]? = some t → Tryd.pinned.checked.prog.wantsStandIn t = false := by
  obtain rfl : f = 6 := Option.some.inj ((show Tryd.prog.funcNamed "loop.example/g00886/laws.FnExactFirstBadOpening" = some 6 by kernel_rfl).symm.trans hf) |>.symm
  obtain rfl : fn = Tryd.f6 := (Option.some.inj (Tryd.func6.symm.trans hfn)).symm
  refine ⟨by kernel_rfl, fun j t ht => ?_⟩
  rw [Tryd.params6] at ht
  have hm := Array.mem_of_getElem? ht
  simp only [List.mem_toArray, List.mem_cons, List.not_mem_nil, or_false] at hm
  rcases hm with rfl | rfl
  · exact (show Tryd.prog.wantsStandIn 40 = false by kernel_rfl)
  · exact (show Tryd.prog.wantsStandIn 41 = false by kernel_rfl)

/-- The card: the row, with what it lists tied to the program's text. -/
theorem card : Rows.FnExactFirstBadOpeningCardSaid :=
  Claim7.holds_tied_plain_at .later [] _ _ _ _ said (fun _ h => by cases h) (by kernel_rfl) (fun _ h => by cases h) fnExactFirstBadOpening_row_tie rfl ⟨rfl, rfl⟩ (by kernel_rfl) rfl plain (by kernel_rfl)
#print axioms card

end Go.Proofs.YtnobcpgckdgheaaDoor.firstBadOpeningLaw
