/-
  The law on TableText holds at every argument: the program's answer is the reference's, and the arguments read as before. The named variables hold what the program's text lays (the card ties them).
-/
import Derived.Test.YtgeophllbmjjfaaDoorTTx
import Derived.Test.YtgeophllbmjjfaaDoorTabTx
import Derived.Test.YtgeophllbmjjfaaDoorFcTableText
namespace Go.Proofs.YtgeophllbmjjfaaDoor.tableTextLaw
open Go.ChangeShapes Go.WideShapes Go.ChangeAt Go.RowKit Go.Joins

theorem keep3k {W0 w w1 : World} {p0 p1 p2 : Addr} {v0 v1 v2 : Value} (k : Kp w w1) (h : w.cell? p0 = some v0 ∧ w.cell? p1 = some v1 ∧ w.cell? p2 = some v2 ∧ Kp W0 w) : w1.cell? p0 = some v0 ∧ w1.cell? p1 = some v1 ∧ w1.cell? p2 = some v2 ∧ Kp W0 w1 :=
  ⟨k.cell h.1, k.cell h.2.1, k.cell h.2.2.1, h.2.2.2.trans k⟩
theorem drew3k {W0 w : World} {p0 p1 p2 : Addr} {v0 v1 v2 : Value} (h : w.cell? p0 = some v0 ∧ w.cell? p1 = some v1 ∧ w.cell? p2 = some v2 ∧ Kp W0 w) : w.drew.cell? p0 = some v0 ∧ w.drew.cell? p1 = some v1 ∧ w.drew.cell? p2 = some v2 ∧ Kp W0 w.drew :=
  ⟨h.1, h.2.1, h.2.2.1, h.2.2.2.drew⟩
theorem keep6k {W0 w w1 : World} {p0 p1 p2 p3 p4 p5 : Addr} {v0 v1 v2 v3 v4 v5 : Value} (k : Kp w w1) (h : w.cell? p0 = some v0 ∧ w.cell? p1 = some v1 ∧ w.cell? p2 = some v2 ∧ w.cell? p3 = some v3 ∧ w.cell? p4 = some v4 ∧ w.cell? p5 = some v5 ∧ Kp W0 w) : w1.cell? p0 = some v0 ∧ w1.cell? p1 = some v1 ∧ w1.cell? p2 = some v2 ∧ w1.cell? p3 = some v3 ∧ w1.cell? p4 = some v4 ∧ w1.cell? p5 = some v5 ∧ Kp W0 w1 :=
  ⟨k.cell h.1, k.cell h.2.1, k.cell h.2.2.1, k.cell h.2.2.2.1, k.cell h.2.2.2.2.1, k.cell h.2.2.2.2.2.1, h.2.2.2.2.2.2.trans k⟩
theorem drew6k {W0 w : World} {p0 p1 p2 p3 p4 p5 : Addr} {v0 v1 v2 v3 v4 v5 : Value} (h : w.cell? p0 = some v0 ∧ w.cell? p1 = some v1 ∧ w.cell? p2 = some v2 ∧ w.cell? p3 = some v3 ∧ w.cell? p4 = some v4 ∧ w.cell? p5 = some v5 ∧ Kp W0 w) : w.drew.cell? p0 = some v0 ∧ w.drew.cell? p1 = some v1 ∧ w.drew.cell? p2 = some v2 ∧ w.drew.cell? p3 = some v3 ∧ w.drew.cell? p4 = some v4 ∧ w.drew.cell? p5 = some v5 ∧ Kp W0 w.drew :=
  ⟨h.1, h.2.1, h.2.2.1, h.2.2.2.1, h.2.2.2.2.1, h.2.2.2.2.2.1, h.2.2.2.2.2.2.drew⟩

set_option maxRecDepth 100000 in
set_option maxHeartbeats 16000000 in
theorem walk (c r : Value) (d : Int) (co : List (Int × Int)) (rs : List (List Int)) (w : World) (hs : TbSp w) (hr : CtIn w c r co rs) :
    Calls Tryd.prog 3 #[cv c d r] w fun e' w' => e' = .returned (.bool true) ∧ Kp w w' := by
  have HR := Lib.hid hr
  have HS := Lib.hid hs
  obtain ⟨mc, e1⟩ : ∃ n, co.length = n := ⟨_, rfl⟩
  obtain ⟨mr, e2⟩ : ∃ n, rs.length = n := ⟨_, rfl⟩
  have HE1 := Lib.hid e1
  have HE2 := Lib.hid e2
  clear e1 e2
  obtain ⟨U, hU⟩ : ∃ x, x = (if tabOk co d rs then txt (tabTx co d rs) else ByteArray.mk #[]) := ⟨_, rfl⟩
  obtain ⟨C, hC⟩ : ∃ x, x = (tabOk co d rs) := ⟨_, rfl⟩
  have CS : Hid (∀ (c r : Value) (w : World), CtAt w c r co rs → Calls Tryd.prog 6 #[cv c d r] w fun e' w' => e' = .returned (.tuple #[.string U, .bool C]) ∧ Kp w w') := Lib.hid fun c r w h => by
    rw [hU, hC]
    exact specTableText_any c r d co rs w h
  have CI : Hid (∀ (c r : Value) (w : World), CtAt w c r co rs → TbSp w → Calls Tryd.prog 8 #[cv c d r] w fun e' w' => e' = .returned (.tuple #[.string U, .bool C]) ∧ Kp w w') := Lib.hid fun c r w h hs => by
    rw [hU, hC]
    exact tableText_any c r d co rs w h hs
  have eC : (C != C) = false := by simp
  clear hr hs hU hC
  have s0 : (w.alloc (.cells #[c, .int .i64 d, r] 25)).cell? ⟨w.heap.size, 0, none⟩ = some (c) ∧ (w.alloc (.cells #[c, .int .i64 d, r] 25)).cell? ⟨w.heap.size, 1, none⟩ = some (.int .i64 d) ∧ (w.alloc (.cells #[c, .int .i64 d, r] 25)).cell? ⟨w.heap.size, 2, none⟩ = some (r) ∧ Kp w (w.alloc (.cells #[c, .int .i64 d, r] 25)) := ⟨by simp [go_sem], by simp [go_sem], by simp [go_sem], (Kp.refl w).alloc _⟩
  go_enter Tryd.func3, Tryd.ntmps3
  go_wp2_with fail
  refine (szCombatTable_any _ _ _ co rs _ _ (HR.out.keep s0.2.2.2) (by omega) (by omega)).mono ?_
  rintro e1 w1 ⟨r1, rfl, u1, u2, u3, k1⟩
  have s1 := keep3k k1 s0
  have U3 := Lib.hid u3
  clear s0 k1 u3
  by_cases hneg : r1 < 0
  · go_wp2_with fail
    go_ret
    exact ⟨rfl, s1.2.2.2⟩
  have RA := Lib.hid (HR.out.at (U3.out (by omega)))
  clear U3
  go_wp2_with fail
  refine (toCombatTable_any _ _ _ co rs mc mr _ (RA.out.keep s1.2.2.2) HE1.out HE2.out).mono ?_
  rintro e2 w2 ⟨A1a, c1a, g2a, vsa, rfl, o2, k2⟩
  have s2 := keep3k k2 s1
  have L2 := Lib.hid (o2.at RA.out)
  clear s1 k2 o2
  go_wp2_with fail
  refine (CS.out _ _ _ L2.out).mono ?_
  rintro e3 w3 ⟨rfl, k3⟩
  have s3 := keep3k k3 s2
  clear s2 k3 L2
  go_wp2_with fail
  refine (toCombatTable_any _ _ _ co rs mc mr _ (RA.out.keep s3.2.2.2) HE1.out HE2.out).mono ?_
  rintro e4 w4 ⟨A1b, c1b, g2b, vsb, rfl, o4, k4⟩
  have s4a := keep3k k4 s3
  have kb : Kp w4 (w4.alloc (.cells #[.slice A1b mc c1b, .int .i64 d, .slice (some ⟨g2b, 0, none⟩) mr mr] 31)) := (Kp.refl w4).alloc _
  have s4 : (w4.alloc (.cells #[.slice A1b mc c1b, .int .i64 d, .slice (some ⟨g2b, 0, none⟩) mr mr] 31)).cell? ⟨w.heap.size, 0, none⟩ = some (c) ∧ (w4.alloc (.cells #[.slice A1b mc c1b, .int .i64 d, .slice (some ⟨g2b, 0, none⟩) mr mr] 31)).cell? ⟨w.heap.size, 1, none⟩ = some (.int .i64 d) ∧ (w4.alloc (.cells #[.slice A1b mc c1b, .int .i64 d, .slice (some ⟨g2b, 0, none⟩) mr mr] 31)).cell? ⟨w.heap.size, 2, none⟩ = some (r) ∧ (w4.alloc (.cells #[.slice A1b mc c1b, .int .i64 d, .slice (some ⟨g2b, 0, none⟩) mr mr] 31)).cell? ⟨w4.heap.size, 0, none⟩ = some (.slice A1b mc c1b) ∧ (w4.alloc (.cells #[.slice A1b mc c1b, .int .i64 d, .slice (some ⟨g2b, 0, none⟩) mr mr] 31)).cell? ⟨w4.heap.size, 1, none⟩ = some (.int .i64 d) ∧ (w4.alloc (.cells #[.slice A1b mc c1b, .int .i64 d, .slice (some ⟨g2b, 0, none⟩) mr mr] 31)).cell? ⟨w4.heap.size, 2, none⟩ = some (.slice (some ⟨g2b, 0, none⟩) mr mr) ∧ Kp w (w4.alloc (.cells #[.slice A1b mc c1b, .int .i64 d, .slice (some ⟨g2b, 0, none⟩) mr mr] 31)) := ⟨kb.cell s4a.1, kb.cell s4a.2.1, kb.cell s4a.2.2.1, by simp [go_sem], by simp [go_sem], by simp [go_sem], s4a.2.2.2.trans kb⟩
  have L4 := Lib.hid ((o4.at RA.out).keep kb)
  clear s3 k4 o4 s4a kb
  go_wp2_with fail
  generalize hW5 : w4.alloc (.cells #[.slice A1b mc c1b, .int .i64 d, .slice (some ⟨g2b, 0, none⟩) mr mr] 31) = W5 at *
  clear hW5
  refine (CI.out _ _ _ L4.out (HS.out.keep s4.2.2.2.2.2.2)).mono ?_
  rintro e6 w6 ⟨rfl, k6⟩
  have s6 := keep6k k6 s4
  have L6 := Lib.hid (L4.out.keep k6)
  clear s4 L4 k6
  have s7 := drew6k s6
  go_wp2_with fail
  go_region_held3 (fun w' => w'.cell? ⟨w.heap.size, 0, none⟩ = some (c) ∧ w'.cell? ⟨w.heap.size, 1, none⟩ = some (.int .i64 d) ∧ w'.cell? ⟨w.heap.size, 2, none⟩ = some (r) ∧ w'.cell? ⟨w4.heap.size, 0, none⟩ = some (.slice A1b mc c1b) ∧ w'.cell? ⟨w4.heap.size, 1, none⟩ = some (.int .i64 d) ∧ w'.cell? ⟨w4.heap.size, 2, none⟩ = some (.slice (some ⟨g2b, 0, none⟩) mr mr) ∧ Kp w w') (first | assumption | exact s7)
    (first
      | (go_at_call 7; refine (toCombatTable_any _ _ _ co rs mc mr _ (RA.out.keep s7.2.2.2.2.2.2) HE1.out HE2.out).mono ?_; rintro e8 w8 ⟨A1c, c1c, g2c, vsc, rfl, o8, k8⟩; have s8 := keep6k k8 s7; have L8 := Lib.hid (o8.at RA.out); have M8 := Lib.hid ((L6.out.keep ((Kp.refl _).drew)).keep k8))
      | (go_at_call 9; refine (eqCombatTable_same _ _ _ _ _ co rs _ M8.out L8.out).mono ?_; rintro e9 w9 ⟨rfl, k9⟩; have s9 := keep6k k9 s8))
  all_goals
    go_wp2_with fail
    go_ret
    exact ⟨rfl, s9.2.2.2.2.2.2⟩

set_option maxRecDepth 100000 in
theorem contract (H : Type) (enc : TypeId × Value → H) (W : World) (base : Nat) (args : Array Value) (ds gs : List (DataW H)) (before : List MemPlace)
    (hval : ∀ (j : Nat) t v, Tryd.f3.params[j]? = some t → args[j]? = some v → Value.okWide Tryd.prog W .any base t v)
    (hW : DataW.Whole enc Tryd.prog Tryd.f3.params.toList Rows.fnExactTableTextSpec.vars false W args.toList ds gs before) (hL : laidMetH Tryd.prog Rows.fnExactTableTextRow.laid W) :
    Calls Tryd.prog 3 args W fun e W' => ∃ v, e = .returned v ∧ Rows.fnExactTableTextSpec.post enc Tryd.prog Tryd.f3 false true false false W args v W' := by
  have hW' := hW
  obtain ⟨p, q, hA0, hV, rfl, hfz, hnd⟩ := hW
  have hA : DataW.TrodAll enc Tryd.prog W 0 (fun _ => true) true Tryd.f3.params.toList args.toList ds p := hA0
  rw [Tryd.params3] at hA hval
  obtain ⟨v0, d0, rfl, rfl, h0⟩ := trodAll_one hA
  obtain ⟨_, _, _, _, rfl⟩ := lenvD4 (trodVars_len hV)
  obtain ⟨c0, r0, d0, co0, rs0, rfl, hR0, hI0⟩ := open_table (hval 0 25 v0 rfl rfl) h0
  refine (walk c0 r0 d0 co0 rs0 W ⟨(laidTableText hL).2.1, (laidTableText hL).2.2.1, (laidTableText hL).1, (laidTableText hL).2.2.2.1⟩ hR0).mono fun e W' ⟨he, hg⟩ => ?_
  subst he
  exact ⟨_, rfl, law_post hW' laidOut (by kernel_rfl) (by kernel_rfl) (by kernel_rfl) Tryd.underlying4 rfl hg⟩

theorem laid_met (os : Os) : laidMet Tryd.prog Rows.fnExactTableTextRow.laid ((laidWorldDi os).forCall (fun _ _ => 0) ⟨#[], #[.agg #[.slice none 0 0, .int .i64 0, .slice none 0 0]], []⟩).memory :=
  laidMet_of_run' 8 (by kernel_rfl) (by kernel_rfl)
theorem reads (os : Os) {H : Type} (enc : TypeId × Value → H) : ∃ ds gs places, DataW.whole enc Tryd.prog ((laidWorldDi os).forCall (fun _ _ => 0) ⟨#[], #[.agg #[.slice none 0 0, .int .i64 0, .slice none 0 0]], []⟩).memory Tryd.f3.params.toList Rows.fnExactTableTextSpec.vars false #[.agg #[.slice none 0 0, .int .i64 0, .slice none 0 0]].toList 8 = some (ds, gs, places) :=
  ⟨[.agg [.nil, .lit (.int .i64 0), .nil]], [Rows.laid_loop_example_g00886_impl_tableDiceSpan, Rows.laid_loop_example_g00886_impl_columnsSpan, Rows.laid_loop_example_g00886_impl_oddsSpan, Rows.laid_loop_example_g00886_impl_resultSpan], MemPlace.row ⟨0, 0, none⟩ 2 ++ (MemPlace.row ⟨1, 0, none⟩ 2 ++ (MemPlace.row ⟨3, 0, none⟩ 2 ++ (MemPlace.row ⟨2, 0, none⟩ 2))), by kernel_rfl⟩

set_option maxRecDepth 100000 in
theorem lifted (os : Os) (started : os.Started) (H : Type) (enc : TypeId × Value → H) (F : Stop.Interp) :
    ReturnsInHanded {} Tryd.checked os 3 .any ((OpenSpec.ofChange Rows.fnExactTableTextSpec).preRow enc Tryd.prog Tryd.f3 Rows.fnExactTableTextRow.domain false Rows.fnExactTableTextRow.laid) (((OpenSpec.ofChange Rows.fnExactTableTextSpec).at F).post enc Tryd.prog Tryd.f3 false true false false) := by
  obtain ⟨ds, gs, places, hx⟩ := reads os enc
  refine returnsInHanded_of_row (C := Tryd.checked) (s := OpenSpec.ofChange Rows.fnExactTableTextSpec) own started (by kernel_rfl) Tryd.func3
    (witness_row_at (enc := enc) (C := Tryd.checked) false (laidWorldDi os) #[.agg #[.slice none 0 0, .int .i64 0, .slice none 0 0]] rfl (by kernel_rfl) (by kernel_rfl) (by kernel_rfl)
      (OpenSpec.preRow_of_cond 8 hx (by kernel_rfl) (fun k hk => by cases hk) (by kernel_rfl) (laid_met os))) ?_
  intro W base args ds gs before hval hW _ _ _ hL _ _
  exact contract H enc W base args ds gs before hval hW hL

theorem said : Rows.FnExactTableTextSaid :=
  OpenClaim.holds_of_cond 3 Tryd.f3 rfl rfl rfl rfl rfl rfl rfl ⟨rfl, rfl, rfl, rfl, rfl⟩ rfl rfl rfl rfl rfl (by kernel_rfl) Tryd.func3 tableTextFacts.tableTextClosed
    (of_decide_eq_true (by kernel_rfl)) (by unfold Func.isWrapper; first | (rw [if_pos (by decide +kernel)]; kernel_rfl) | (rw [if_neg (by decide +kernel)]; exact ⟨rfl, rfl⟩))
    (fun os started H enc _ F => by rw [OpenClaim.pre_eq_preRow]; exact lifted os started H enc F)

theorem plain (f : FuncId) (fn : Func) (hf : Tryd.pinned.checked.prog.funcNamed "loop.example/g00886/laws.FnExactTableText" = some f) (hfn : Tryd.pinned.checked.prog.funcs[f]? = some fn) :
    true = Tryd.pinned.checked.prog.looks [] ∧ ∀ (j : Nat) t, fn.params[j]? = some t → Tryd.pinned.checked.prog.wantsStandIn t = false := by
  obtain rfl : f = 3 := Option.some.inj ((show Tryd.prog.funcNamed "loop.example/g00886/laws.FnExactTableText" = some 3 by kernel_rfl).symm.trans hf) |>.symm
  obtain rfl : fn = Tryd.f3 := (Option.some.inj (Tryd.func3.symm.trans hfn)).symm
  refine ⟨by kernel_rfl, fun j t ht => ?_⟩
  rw [Tryd.params3] at ht
  have hm := Array.mem_of_getElem? ht
  simp only [List.mem_toArray, List.mem_cons, List.not_mem_nil, or_false] at hm
  subst hm
  exact (show Tryd.prog.wantsStandIn 25 = false by kernel_rfl)

/-- The card: the row, with what it lists tied to the program's text. -/
theorem card : Rows.FnExactTableTextCardSaid :=
  Claim7.holds_tied_plain_at .later [] _ _ _ _ said (fun _ h => by cases h) (by kernel_rfl) (fun _ h => by cases h) fnExactTableText_row_tie rfl ⟨rfl, rfl⟩ (by kernel_rfl) rfl plain (by kernel_rfl)
#print axioms card

end Go.Proofs.YtgeophllbmjjfaaDoor.tableTextLaw
