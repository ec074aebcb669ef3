/-
  The law on SealChain holds at every list of seals: the program's list is the reference's, in memory of its own, and the seals are left as they were. The named variables hold what the program's text lays (the card ties them).
-/
import Derived.Test.YtnobcpgckdgheaaDoorSlP
import Derived.Test.YtnobcpgckdgheaaDoorSlS
import Derived.Test.YtnobcpgckdgheaaDoorMarkN
import Derived.Test.YtnobcpgckdgheaaDoorTabV
import Derived.Test.YtnobcpgckdgheaaDoorTabSl
namespace Go.Proofs.YtnobcpgckdgheaaDoor.sealChainLaw
open Go.ChangeShapes Go.WideShapes Go.ChangeAt Go.RowKit Go.Joins

set_option maxRecDepth 100000 in
theorem rdSea_of {H : Type} {enc : TypeId × Value → H} {W : World} {base : Nat} {v : Value} {d : DataW H} {p : List MemPlace}
    (hv : Value.okWide Tryd.prog W .any base 40 v) (h : DataW.Trod enc Tryd.prog W 0 (fun _ => true) true 40 v d p) : ∃ l : List Sea, RdSl W v l ∧ l.length ≤ 9223372036854775807 ∧ ∀ x ∈ l, SeaI x := by
  obtain ⟨a0, len, cap, rfl⟩ := okWide_slice Tryd.underlying40 hv
  obtain ⟨n, hf⟩ := h
  exact rdSl_of_trod hf
set_option maxRecDepth 100000 in
set_option maxHeartbeats 16000000 in
theorem walk (v : Value) (l : List Sea) (w : World) (h : RdSl w v l) (hlen : l.length ≤ 9223372036854775807) (g0 : SpanAt w 4 0 4) (g1 : SpanAt w 0 0 30) (g2 : SpanAt w 1 0 1) (g3 : SpanAt w 2 0 4611686016279904236) :
    Calls Tryd.prog 8 #[v] w fun e' w' => e' = .returned (.bool true) ∧ Kp w w' := by
  have HG := Lib.hid (show SpanAt w 4 0 4 ∧ SpanAt w 0 0 30 ∧ SpanAt w 1 0 1 ∧ SpanAt w 2 0 4611686016279904236 from ⟨g0, g1, g2, g3⟩)
  by_cases hl : l.length ≤ 1048576
  · have CT := Lib.hid (fun w h => toSealedS_any v l w h hl)
    have CI := Lib.hid (fun (v : Value) (w : World) (h : RdSl w v l) (g : SpanAt w 4 0 4 ∧ SpanAt w 0 0 30 ∧ SpanAt w 1 0 1 ∧ SpanAt w 2 0 4611686016279904236) => sealChainP_any v l w h hl g.1 g.2.1 g.2.2.1 g.2.2.2)
    have CS := Lib.hid (fun v w h => sealChainS_any v l w h hl)
    have HR := Lib.hid h
    have CZ := Lib.hid (fun A c w => szSealedS_yes A l.length c 1048576 w (by omega) (by omega) (by omega))
    have CE := Lib.hid (fun va vb w ha hb => eqSealedS_same va vb l w ha hb hl)
    have CM := Lib.hid (fun (A : Value) xs b w (h : w.ownsRow b 25 3 A l.length xs) => markSealedS_own A l.length b 1 xs w (by omega) (by omega) hl h)
    have hlq : (if roundB seaB l = true then chnL l l.length else []).length ≤ 1000 := by
      split
      · rename_i h4
        have := roundB_len h4
        rw [chnL_len]
        omega
      · simp
    obtain ⟨A, c, rfl, -⟩ := h
    unfold ListPostI at CI CS
    generalize (if roundB seaB l = true then chnL l l.length else []) = Q at CI CS hlq
    generalize roundB seaB l = B at CI CS
    have eB : (B != B) = false := by simp
    have HL' : Hid (∀ n : Nat, n = l.length → (n : Int) ≤ 1048576 ∧ 0 ≤ 1048576 - (n : Int)) := Lib.hid (fun n e => by omega)
    obtain ⟨n, hn⟩ : ∃ n, n = l.length := ⟨_, rfl⟩
    have hb1 := (HL'.out n hn).1
    have hb2 : ¬ (1048576 - (n : Int) < 0) := by omega
    rw [← hn] at CT CZ HR hl hlen ⊢
    clear hn HL'
    clear g0 g1 g2 g3
    go_enter Tryd.func8, Tryd.ntmps8
    go_wp2_with fail
    refine (CZ.out _ _ _).mono ?_
    rintro e1 w1 ⟨rfl, rfl⟩
    go_wp2_with fail
    refine (CT.out _ HR.out).mono ?_
    rintro e2 w2 ⟨g2, rfl, o2, k2⟩
    have HR_2 := Lib.hid (HR.out.keep k2)
    clear HR
    have K2 := k2
    have R1_2 := Lib.hid (o2.rd)
    go_wp2_with fail
    refine (CS.out _ _ R1_2.out).mono ?_
    rintro e3 w3 ⟨v0, rfl, o0, k3⟩
    have HR_3 := Lib.hid (HR_2.out.keep k3)
    clear HR_2
    have R1_3 := Lib.hid (R1_2.out.keep k3)
    clear R1_2
    have K3 := K2.trans k3
    have RV_3 := Lib.hid (o0.rd)
    clear R1_3
    go_wp2_with fail
    refine (CT.out _ HR_3.out).mono ?_
    rintro e4 w4 ⟨ga, rfl, oa, k4⟩
    have HR_4 := Lib.hid (HR_3.out.keep k4)
    have RV_4 := Lib.hid (RV_3.out.keep k4)
    have K4 := K3.trans k4
    have X4 := k4
    have OA_4 := Lib.hid (oa)
    have zA : w3.heap.size ≤ ga ∧ ga < w4.heap.size := World.ownsRow.lt oa ga rfl
    go_wp2_with fail
    refine (CI.out _ _ OA_4.out.rd ⟨(K4.two HG.out.1), (K4.two HG.out.2.1), (K4.two HG.out.2.2.1), (K4.two HG.out.2.2.2)⟩).mono ?_
    rintro e5 w5 ⟨v1, rfl, o1, k5⟩
    have HR_5 := Lib.hid (HR_4.out.keep k5)
    clear HR_4
    have RV_5 := Lib.hid (RV_4.out.keep k5)
    clear RV_4
    have OA_5 := Lib.hid (OA_4.out.keep k5)
    clear OA_4
    have K5 := K4.trans k5
    have X5 := X4.trans k5
    have OV_5 := Lib.hid (o1)
    have zV : Hid (∀ k, v1.ownBlock = some k → w4.heap.size ≤ k) := Lib.hid (fun k e => (World.ownsRow.lt o1 k e).1)
    clear o0 oa o1
    go_wp2_with fail
    refine (eqIntS_same v1 v0 Q _ OV_5.out.rd RV_5.out (by omega)).mono ?_
    rintro e6 w6 ⟨rfl, k6⟩
    have HR_6 := Lib.hid (HR_5.out.keep k6)
    clear HR_5
    have RV_6 := Lib.hid (RV_5.out.keep k6)
    clear RV_5
    have OA_6 := Lib.hid (OA_5.out.keep k6)
    clear OA_5
    have OV_6 := Lib.hid (OV_5.out.keep k6)
    clear OV_5
    have K6 := K5.trans k6
    have X6 := X5.trans k6
    go_wp2_with fail
    refine (CT.out _ HR_6.out).mono ?_
    rintro e7 w7 ⟨gb, rfl, ob, k7⟩
    have HR_7 := Lib.hid (HR_6.out.keep k7)
    clear HR_6
    have RV_7 := Lib.hid (RV_6.out.keep k7)
    clear RV_6
    have OA_7 := Lib.hid (OA_6.out.keep k7)
    clear OA_6
    have OV_7 := Lib.hid (OV_6.out.keep k7)
    clear OV_6
    have K7 := K6.trans k7
    have X7 := X6.trans k7
    have RB_7 := Lib.hid (ob.rd)
    go_wp2_with fail
    refine (CE.out _ _ _ OA_7.out.rd RB_7.out).mono ?_
    rintro e8 w8 ⟨rfl, k8⟩
    have HR_8 := Lib.hid (HR_7.out.keep k8)
    clear HR_7
    have RV_8 := Lib.hid (RV_7.out.keep k8)
    clear RV_7
    have OA_8 := Lib.hid (OA_7.out.keep k8)
    clear OA_7
    have OV_8 := Lib.hid (OV_7.out.keep k8)
    clear OV_7
    have RB_8 := Lib.hid (RB_7.out.keep k8)
    clear RB_7
    have K8 := K7.trans k8
    have X8 := X7.trans k8
    clear RB_8
    clear ob
    go_wp2_with fail
    refine (CM.out _ _ _ _ OA_8.out).mono ?_
    rintro e9 w9 ⟨rfl, om, gm⟩
    have KM : Kp w3 w9 := X8.grown gm (fun k e => by simp only [Value.ownBlock, Option.some.injEq] at e; omega)
    have K9 := K3.trans KM
    have OV_9 : Hid (OwnI w9 w4.heap.size v1 Q) := Lib.hid (World.ownsRow.kept OV_8.out gm (.inr (fun e => by have := zV.out ga e; omega)))
    clear OV_8 HR_8 RV_8
    have HR_9 := Lib.hid (HR_3.out.keep KM)
    have RV_9 := Lib.hid (RV_3.out.keep KM)
    clear om gm
    have hk0 : ¬ (1 + 3 * (l.length : Int) < 0) := by omega
    go_wp2_with fail
    refine (eqIntS_same v1 v0 Q _ (OwnI.rd (base := w4.heap.size) OV_9.out) RV_9.out (by omega)).mono ?_
    rintro e10 w10 ⟨rfl, k10⟩
    have HR_10 := Lib.hid (HR_9.out.keep k10)
    clear HR_9
    have RV_10 := Lib.hid (RV_9.out.keep k10)
    clear RV_9
    have OV_10 := Lib.hid (OV_9.out.keep k10)
    clear OV_9
    have K10 := K9.trans k10
    have X10 := KM.trans k10
    go_wp2_with fail
    refine (markIntS_own v1 Q.length w4.heap.size 1 (cellsI Q) _ (by omega) (by omega) (by omega) OV_10.out).mono ?_
    rintro e11 w11 ⟨rfl, om, gm⟩
    have KN : Kp w3 w11 := X10.grown gm (fun k e => by have := zV.out k e; omega)
    have K11 := K3.trans KN
    have OM_11 := Lib.hid om
    clear OV_10 HR_10 RV_10
    have HR_11 := Lib.hid (HR_3.out.keep KN)
    have RV_11 := Lib.hid (RV_3.out.keep KN)
    clear om gm
    have hne : ((1 + (Q.length : Int)) != (1 + (Q.length : Int))) = false := by simp
    go_wp2_with fail
    refine (heldIntS_own v1 Q.length w4.heap.size 1 _ (by omega) (by omega) (by omega) OM_11.out).mono ?_
    rintro e12 w12 ⟨rfl, k12⟩
    have HR_12 := Lib.hid (HR_11.out.keep k12)
    clear HR_11
    have RV_12 := Lib.hid (RV_11.out.keep k12)
    clear RV_11
    have K12 := K11.trans k12
    have OM12_ := Lib.hid (ownsRow_keep OM_11.out k12)
    clear OM_11
    go_wp2_with fail
    refine (CT.out _ HR_12.out).mono ?_
    rintro e13 w13 ⟨gc, rfl, oc, k13⟩
    have HR_13 := Lib.hid (HR_12.out.keep k13)
    clear HR_12
    have RV_13 := Lib.hid (RV_12.out.keep k13)
    clear RV_12
    have K13 := K12.trans k13
    have RC_13 := Lib.hid (oc.rd)
    have OM13_ := Lib.hid (ownsRow_keep OM12_.out k13)
    clear OM12_
    go_wp2_with fail
    refine (CI.out _ _ RC_13.out ⟨(K13.two HG.out.1), (K13.two HG.out.2.1), (K13.two HG.out.2.2.1), (K13.two HG.out.2.2.2)⟩).mono ?_
    rintro e14 w14 ⟨v2, rfl, o2, k14⟩
    have HR_14 := Lib.hid (HR_13.out.keep k14)
    clear HR_13
    have RV_14 := Lib.hid (RV_13.out.keep k14)
    clear RV_13
    have RC_14 := Lib.hid (RC_13.out.keep k14)
    clear RC_13
    have K14 := K13.trans k14
    have R2_14 := Lib.hid (o2.rd)
    have OM14_ := Lib.hid (ownsRow_keep OM13_.out k14)
    clear OM13_
    clear oc o2
    go_wp2_with fail
    refine (eqIntS_same v2 v0 Q _ R2_14.out RV_14.out (by omega)).mono ?_
    rintro e15 w15 ⟨rfl, k15⟩
    have HR_15 := Lib.hid (HR_14.out.keep k15)
    clear HR_14
    have RV_15 := Lib.hid (RV_14.out.keep k15)
    clear RV_14
    have RC_15 := Lib.hid (RC_14.out.keep k15)
    clear RC_14
    have R2_15 := Lib.hid (R2_14.out.keep k15)
    clear R2_14
    have K15 := K14.trans k15
    have OM15_ := Lib.hid (ownsRow_keep OM14_.out k15)
    clear OM14_
    go_wp2_with fail
    refine (heldIntS_own v1 Q.length w4.heap.size 1 _ (by omega) (by omega) (by omega) OM15_.out).mono ?_
    rintro e16 w16 ⟨rfl, k16⟩
    have HR_16 := Lib.hid (HR_15.out.keep k16)
    clear HR_15
    have RV_16 := Lib.hid (RV_15.out.keep k16)
    clear RV_15
    have RC_16 := Lib.hid (RC_15.out.keep k16)
    clear RC_15
    have R2_16 := Lib.hid (R2_15.out.keep k16)
    clear R2_15
    have K16 := K15.trans k16
    go_wp2_with fail
    go_ret
    exact ⟨rfl, K16⟩
  · obtain ⟨A, c, rfl, -⟩ := h
    have CZ := Lib.hid (fun w => szSealedS_no A l.length c 1048576 w (by omega) (by omega) (by omega) hlen)
    generalize l.length = n at *
    go_enter Tryd.func8, Tryd.ntmps8
    go_wp2_with fail
    refine (CZ.out _).mono ?_
    rintro e1 w1 ⟨rfl, rfl⟩
    go_wp2_with fail
    go_ret
    exact ⟨rfl, Kp.refl _⟩

set_option maxRecDepth 100000 in
theorem contract (H : Type) (enc : TypeId × Value → H) (W : World) (base : Nat) (args : Array Value) (ds gs : List (DataW H)) (before : List MemPlace)
    (hval : ∀ (j : Nat) t v, Tryd.f8.params[j]? = some t → args[j]? = some v → Value.okWide Tryd.prog W .any base t v)
    (hW : DataW.Whole enc Tryd.prog Tryd.f8.params.toList Rows.fnExactSealChainSpec.vars false W args.toList ds gs before) (hL : laidMetH Tryd.prog Rows.fnExactSealChainRow.laid W) :
    Calls Tryd.prog 8 args W fun e W' => ∃ v, e = .returned v ∧ Rows.fnExactSealChainSpec.post enc Tryd.prog Tryd.f8 false true false false W args v W' := by
  have hW' := hW
  obtain ⟨p, q, hA0, hV, rfl, hfz, hnd⟩ := hW
  have hA : DataW.TrodAll enc Tryd.prog W 0 (fun _ => true) true Tryd.f8.params.toList args.toList ds p := hA0
  rw [Tryd.params8] at hA hval
  obtain ⟨v0, d0, rfl, rfl, h0⟩ := trodAll_one hA
  obtain ⟨_, _, _, _, rfl⟩ := lenvD4 (trodVars_len hV)
  obtain ⟨l0, hR0, hl0, _⟩ := rdSea_of (hval 0 40 v0 rfl rfl) h0
  refine (walk v0 l0 W hR0 hl0 (laidSealChain hL).1 (laidSealChain hL).2.1 (laidSealChain hL).2.2.1 (laidSealChain hL).2.2.2).mono fun e W' ⟨he, hg⟩ => ?_
  subst he
  exact ⟨_, rfl, law_post hW' laidOut (by kernel_rfl) (by kernel_rfl) (by kernel_rfl) Tryd.underlying4 rfl hg⟩

theorem laid_met (os : Os) : laidMet Tryd.prog Rows.fnExactSealChainRow.laid ((laidWorldDi os).forCall (fun _ _ => 0) ⟨#[], #[.slice none 0 0], []⟩).memory :=
  laidMet_of_run' 8 (by kernel_rfl) (by kernel_rfl)
theorem reads (os : Os) {H : Type} (enc : TypeId × Value → H) : ∃ ds gs places, DataW.whole enc Tryd.prog ((laidWorldDi os).forCall (fun _ _ => 0) ⟨#[], #[.slice none 0 0], []⟩).memory Tryd.f8.params.toList Rows.fnExactSealChainSpec.vars false #[.slice none 0 0].toList 8 = some (ds, gs, places) :=
  ⟨[.nil], [Rows.laid_loop_example_g00886_impl_roundSpan, Rows.laid_loop_example_g00886_impl_sealTurnSpan, Rows.laid_loop_example_g00886_impl_sideSpan, Rows.laid_loop_example_g00886_impl_seedSpan], MemPlace.row ⟨4, 0, none⟩ 2 ++ (MemPlace.row ⟨0, 0, none⟩ 2 ++ (MemPlace.row ⟨1, 0, none⟩ 2 ++ (MemPlace.row ⟨2, 0, none⟩ 2))), by kernel_rfl⟩

set_option maxRecDepth 100000 in
theorem lifted (os : Os) (started : os.Started) (H : Type) (enc : TypeId × Value → H) (F : Stop.Interp) :
    ReturnsInHanded {} Tryd.checked os 8 .any ((OpenSpec.ofChange Rows.fnExactSealChainSpec).preRow enc Tryd.prog Tryd.f8 Rows.fnExactSealChainRow.domain false Rows.fnExactSealChainRow.laid) (((OpenSpec.ofChange Rows.fnExactSealChainSpec).at F).post enc Tryd.prog Tryd.f8 false true false false) := by
  obtain ⟨ds, gs, places, hx⟩ := reads os enc
  refine returnsInHanded_of_row (C := Tryd.checked) (s := OpenSpec.ofChange Rows.fnExactSealChainSpec) own started (by kernel_rfl) Tryd.func8
    (witness_row_at (enc := enc) (C := Tryd.checked) false (laidWorldDi os) #[.slice none 0 0] rfl (by kernel_rfl) (by kernel_rfl) (by kernel_rfl)
      (OpenSpec.preRow_of_cond 8 hx (by kernel_rfl) (fun k hk => by cases hk) (by kernel_rfl) (laid_met os))) ?_
  intro W base args ds gs before hval hW _ _ _ hL _ _
  exact contract H enc W base args ds gs before hval hW hL

theorem said : Rows.FnExactSealChainSaid :=
  OpenClaim.holds_of_cond 8 Tryd.f8 rfl rfl rfl rfl rfl rfl rfl ⟨rfl, rfl, rfl, rfl, rfl⟩ rfl rfl rfl rfl rfl (by kernel_rfl) Tryd.func8 (by kernel_rfl)
    (of_decide_eq_true (by kernel_rfl)) (by unfold Func.isWrapper; first | (rw [if_pos (by decide +kernel)]; kernel_rfl) | (rw [if_neg (by decide +kernel)]; exact ⟨rfl, rfl⟩))
    (fun os started H enc _ F => by rw [OpenClaim.pre_eq_preRow]; exact lifted os started H enc F)

theorem plain (f : FuncId) (fn : Func) (hf : Tryd.pinned.checked.prog.funcNamed "loop.example/g00886/laws.FnExactSealChain" = some f) (hfn : Tryd.pinned.checked.prog.funcs[f]? = some fn) :
    false = Tryd.pinned.checked.prog.looks [] ∧ ∀ (j : Nat) t, fn.params[j]? = some t → Tryd.pinned.checked.prog.wantsStandIn t = false := by
  obtain rfl : f = 8 := Option.some.inj ((show Tryd.prog.funcNamed "loop.example/g00886/laws.FnExactSealChain" = some 8 by kernel_rfl).symm.trans hf) |>.symm
  obtain rfl : fn = Tryd.f8 := (Option.some.inj (Tryd.func8.symm.trans hfn)).symm
  refine ⟨by kernel_rfl, fun j t ht => ?_⟩
  rw [Tryd.params8] at ht
  have hm := Array.mem_of_getElem? ht
  simp only [List.mem_toArray, List.mem_cons, List.not_mem_nil, or_false] at hm
  subst hm
  exact (show Tryd.prog.wantsStandIn 40 = false by kernel_rfl)

/-- The card: the row, with what it lists tied to the program's text. -/
theorem card : Rows.FnExactSealChainCardSaid :=
  Claim7.holds_tied_plain_at .later [] _ _ _ _ said (fun _ h => by cases h) (by kernel_rfl) (fun _ h => by cases h) fnExactSealChain_row_tie rfl ⟨rfl, rfl⟩ (by kernel_rfl) rfl plain (by kernel_rfl)
#print axioms card

end Go.Proofs.YtnobcpgckdgheaaDoor.sealChainLaw
