/-
  The law on HexAt holds at every argument: the program's answer is the reference's, and the arguments read as before. The table of directions holds what the program's text lays (the card ties it).
-/
import Derived.Test.YtpfnljhnjembpaaDoorMapW
import Derived.Test.YtpfnljhnjembpaaDoorMapH
namespace Go.Proofs.YtpfnljhnjembpaaDoor.hexAtLaw
open Go.ChangeShapes Go.WideShapes Go.ChangeAt Go.RowKit Go.Joins

set_option maxHeartbeats 8000000 in
theorem walk (W H : Int) (t r d : Value) (lt lr ld : List Int) (n1 : Int) (w : World) (ht : Tab w) (hr : Reads w t r d lt lr ld) (_hn1 : isI64 n1) :
    Calls Tryd.prog 5 #[mp W H t r d, .int .i64 n1] w fun e w' => e = .returned (.bool true) ∧ Kp w w' := by
  by_cases hbig : lt.length + lr.length + ld.length ≤ 1048576
  · have HL := Lib.hid (hr.lists hbig)
    have HT := Lib.hid ht
    obtain ⟨X, hX⟩ : ∃ x, x = (vI (mapOk W H lt lr ld && onI W H n1) (n1 % W)) := ⟨_, rfl⟩
    obtain ⟨Y, hY⟩ : ∃ x, x = (vI (mapOk W H lt lr ld && onI W H n1) (n1 / W)) := ⟨_, rfl⟩
    obtain ⟨D, hD⟩ : ∃ x, x = (mapOk W H lt lr ld && onI W H n1) := ⟨_, rfl⟩
    have CS : Hid (∀ t r d w, Lists w t r d lt lr ld → Calls Tryd.prog 21 #[mp W H t r d, .int .i64 n1] w fun e w' => e = .returned (.tuple #[hx X Y, .bool D]) ∧ Kp w w') := Lib.hid fun t r d w h => by
      rw [hX, hY, hD]
      exact specHexAt_any W H t r d lt lr ld n1 w h
    have CI : Hid (∀ t r d w, Tab w → Lists w t r d lt lr ld → Calls Tryd.prog 22 #[mp W H t r d, .int .i64 n1] w fun e w' => e = .returned (.tuple #[hx X Y, .bool D]) ∧ Kp w w') := Lib.hid fun t r d w k h => by
      rw [hX, hY, hD]
      exact hexAt_any W H t r d lt lr ld n1 w k h
    have eX : (X != X) = false := by simp
    have eY : (Y != Y) = false := by simp
    have eD : (D != D) = false := by simp
    clear hX hY hD
    obtain ⟨At, ct, rfl, _⟩ := hr.rt
    obtain ⟨Ar, cr, rfl, _⟩ := hr.rr
    obtain ⟨Ad, cd, rfl, _⟩ := hr.rd
    obtain ⟨S0, hS0⟩ : ∃ S0, szTot lt.length lr.length ld.length = S0 := ⟨_, rfl⟩
    have hs0 : 0 ≤ S0 := by rw [← hS0]; unfold szTot; rw [if_pos hbig]; omega
    have CZ := Lib.hid (fun w => szMap_s W H At Ar Ad lt.length ct lr.length cr ld.length cd S0 w hr.bt hr.br hr.bd hS0)
    obtain ⟨nt, hnt⟩ : ∃ n, lt.length = n := ⟨_, rfl⟩
    obtain ⟨nr, hnr⟩ : ∃ n, lr.length = n := ⟨_, rfl⟩
    obtain ⟨nd, hnd⟩ : ∃ n, ld.length = n := ⟨_, rfl⟩
    have CT := Lib.hid (fun t r d w (h : Lists w t r d lt lr ld) => toMap_sl W H t r d lt lr ld nt nr nd w h hnt hnr hnd)
    rw [hnt, hnr, hnd] at HL CZ ⊢
    clear hr ht hS0 hbig hnt hnr hnd
    have s0 := new5 w (.int .i64 W) (.int .i64 H) (.slice At nt ct) (.slice Ar nr cr) (.slice Ad nd cd) 24
    go_enter Tryd.func5, Tryd.ntmps5
    go_wp2_with fail
    refine (CZ.out _).mono ?_
    rintro e1 w1 ⟨rfl, k1⟩
    have s1 := keep5 k1 s0
    clear s0 k1
    go_wp2_with fail
    refine (CT.out _ _ _ _ (HL.out.keep s1.2.2.2.2.2)).mono ?_
    rintro e2 w2 ⟨A1, a1, A2, a2, A3, a3, rfl, o2, k2⟩
    have s2 := keep5 k2 s1
    have L2 := Lib.hid (o2.lists HL.out)
    clear s1 k2 o2
    go_wp2_with fail
    refine (CS.out _ _ _ _ L2.out).mono ?_
    rintro e3 w3 ⟨rfl, k3⟩
    have s3 := keep5 (k3.trans ((Kp.refl w3).alloc (.cells #[.int .i64 X, .int .i64 Y] 35))) s2
    have g3 : (w3.alloc (.cells #[.int .i64 X, .int .i64 Y] 35)).cell? ⟨w3.heap.size, 0, none⟩ = some (.int .i64 X) ∧ (w3.alloc (.cells #[.int .i64 X, .int .i64 Y] 35)).cell? ⟨w3.heap.size, 1, none⟩ = some (.int .i64 Y) := ⟨by simp [go_sem], by simp [go_sem]⟩
    clear s2 k3 L2
    go_wp2_with fail
    generalize w3.heap.size = b3 at *
    generalize hW3 : w3.alloc (.cells #[.int .i64 X, .int .i64 Y] 35) = W3 at *
    clear hW3
    refine (CT.out _ _ _ _ (HL.out.keep s3.2.2.2.2.2)).mono ?_
    rintro e4 w4 ⟨B1, b1, B2, b2, B3, c3, rfl, o4, k4⟩
    have s4 := box10 (.int .i64 W) (.int .i64 H) (.slice B1 nt b1) (.slice B2 nr b2) (.slice B3 nd c3) 27 (keep5 k4 s3)
    have L4 := Lib.hid ((o4.lists HL.out).keep ((Kp.refl w4).alloc (.cells #[.int .i64 W, .int .i64 H, .slice B1 nt b1, .slice B2 nr b2, .slice B3 nd c3] 27)))
    have g5 := (k4.trans ((Kp.refl w4).alloc (.cells #[.int .i64 W, .int .i64 H, .slice B1 nt b1, .slice B2 nr b2, .slice B3 nd c3] 27))).two g3
    clear s3 k4 o4 g3
    go_wp2_with fail
    generalize hW5 : w4.alloc (.cells #[.int .i64 W, .int .i64 H, .slice B1 nt b1, .slice B2 nr b2, .slice B3 nd c3] 27) = W5 at *
    clear hW5
    refine (CI.out _ _ _ _ (HT.out.k5 s4.1) L4.out).mono ?_
    rintro e6 w6 ⟨rfl, k6⟩
    have s6a := keep10 k6 s4
    have g6 := k6.two g5
    have L6a := Lib.hid (L4.out.keep k6)
    have kz := (Kp.refl w6).alloc (.cells #[.int .i64 X, .int .i64 Y] 35)
    have g6b := kz.two g6
    clear s4 L4 k6 g5
    go_wp2_with fail
    refine (eqHex_any _ _ _ _ _).mono ?_
    rintro e7 w7 ⟨rfl, k7⟩
    have s6 := keep10 (kz.trans k7) s6a
    have L6 := Lib.hid (L6a.out.keep (kz.trans k7))
    have s7 := drew10 s6
    have hb : (decide (X = X) && decide (Y = Y)) = true := by simp
    rw [hb]
    clear s6a g6 g6b L6a kz hb
    go_wp2_with fail
    go_region_held3 (fun w' => (w'.cell? ⟨w.heap.size, 0, none⟩ = some (.int .i64 W) ∧ w'.cell? ⟨w.heap.size, 1, none⟩ = some (.int .i64 H) ∧ w'.cell? ⟨w.heap.size, 2, none⟩ = some (.slice At nt ct) ∧ w'.cell? ⟨w.heap.size, 3, none⟩ = some (.slice Ar nr cr) ∧ w'.cell? ⟨w.heap.size, 4, none⟩ = some (.slice Ad nd cd) ∧ Kp w w') ∧ w'.cell? ⟨w4.heap.size, 0, none⟩ = some (.int .i64 W) ∧ w'.cell? ⟨w4.heap.size, 1, none⟩ = some (.int .i64 H) ∧ w'.cell? ⟨w4.heap.size, 2, none⟩ = some (.slice B1 nt b1) ∧ w'.cell? ⟨w4.heap.size, 3, none⟩ = some (.slice B2 nr b2) ∧ w'.cell? ⟨w4.heap.size, 4, none⟩ = some (.slice B3 nd c3) ∧ Kp w w') (first | assumption | exact s7)
      (first
        | (go_at_call 15; refine (CT.out _ _ _ _ (HL.out.keep s7.1.2.2.2.2.2)).mono ?_; rintro e8 w8 ⟨C1, c1, C2, c2, C3, c4, rfl, o8, k8⟩; have s8 := keep10 k8 s7; have L8 := Lib.hid (o8.lists HL.out); have M8 := Lib.hid ((L6.out.keep ((Kp.refl _).drew)).keep k8))
        | (go_at_call 17; refine (eqMap_same _ _ _ _ _ _ _ _ lt lr ld _ M8.out L8.out).mono ?_; rintro e9 w9 ⟨rfl, k9⟩; have s9 := keep10 k9 s8))
    all_goals
      go_wp2_with fail
      go_ret
      exact ⟨rfl, s9.1.2.2.2.2.2⟩
  · obtain ⟨At, ct, rfl, _⟩ := hr.rt
    obtain ⟨Ar, cr, rfl, _⟩ := hr.rr
    obtain ⟨Ad, cd, rfl, _⟩ := hr.rd
    have hS0 : szTot lt.length lr.length ld.length = -1 := by unfold szTot; rw [if_neg hbig]
    have CZ := Lib.hid (fun w => szMap_s W H At Ar Ad lt.length ct lr.length cr ld.length cd (-1) w hr.bt hr.br hr.bd hS0)
    clear hr ht hS0 hbig
    go_enter Tryd.func5, Tryd.ntmps5
    go_wp2_with fail
    refine (CZ.out _).mono ?_
    rintro e1 w1 ⟨rfl, k1⟩
    go_wp2_with fail
    go_ret
    exact ⟨rfl, ((Kp.refl _).alloc _).trans k1⟩

set_option maxRecDepth 100000 in
theorem contract (H : Type) (enc : TypeId × Value → H) (W : World) (base : Nat) (args : Array Value) (ds gs : List (DataW H)) (before : List MemPlace)
    (hval : ∀ (j : Nat) t v, Tryd.f5.params[j]? = some t → args[j]? = some v → Value.okWide Tryd.prog W .any base t v)
    (hW : DataW.Whole enc Tryd.prog Tryd.f5.params.toList Rows.fnExactHexAtSpec.vars false W args.toList ds gs before) (hL : laidMetH Tryd.prog Rows.fnExactHexAtRow.laid W) :
    Calls Tryd.prog 5 args W fun e W' => ∃ v, e = .returned v ∧ Rows.fnExactHexAtSpec.post enc Tryd.prog Tryd.f5 false true false false W args v W' := by
  have hW' := hW
  obtain ⟨p, q, hA0, hV, rfl, hfz, hnd⟩ := hW
  have hA : DataW.TrodAll enc Tryd.prog W 0 (fun _ => true) true Tryd.f5.params.toList args.toList ds p := hA0
  rw [Tryd.params5] at hA hval
  obtain ⟨v0, v1, d0, d1, p0, p1, rfl, rfl, rfl, h0, h1⟩ := trodAll_two hA
  obtain ⟨_, _, _, _, g0, _, rfl, _, _, _, _, _⟩ := trodVars_one hV
  obtain ⟨wd0, ht0, t0, r0, e0, lt0, lr0, ld0, rfl, hR0⟩ := open_map5 (hval 0 24 v0 rfl rfl) h0
  obtain ⟨n1, rfl, _, _, wf1⟩ := open_int Tryd.underlying3 (hval 1 3 v1 rfl rfl) h1
  refine (walk wd0 ht0 t0 r0 e0 lt0 lr0 ld0 n1 W (tab_of_laid hL) hR0 (bounds_i64 wf1)).mono fun e W' ⟨he, hg⟩ => ?_
  subst he
  exact ⟨_, rfl, law_post hW' laidOut (by kernel_rfl) (by kernel_rfl) (by kernel_rfl) Tryd.underlying4 rfl hg⟩

theorem laid_met (os : Os) : laidMet Tryd.prog Rows.fnExactHexAtRow.laid ((laidWorld os).forCall (fun _ _ => 0) ⟨#[], #[.agg #[.int .i64 0, .int .i64 0, .slice none 0 0, .slice none 0 0, .slice none 0 0], .int .i64 0], []⟩).memory :=
  laidMet_of_run' 8 (by kernel_rfl) (by kernel_rfl)
theorem reads (os : Os) {H : Type} (enc : TypeId × Value → H) : ∃ ds gs places, DataW.whole enc Tryd.prog ((laidWorld os).forCall (fun _ _ => 0) ⟨#[], #[.agg #[.int .i64 0, .int .i64 0, .slice none 0 0, .slice none 0 0, .slice none 0 0], .int .i64 0], []⟩).memory Tryd.f5.params.toList Rows.fnExactHexAtSpec.vars false #[.agg #[.int .i64 0, .int .i64 0, .slice none 0 0, .slice none 0 0, .slice none 0 0], .int .i64 0].toList 8 = some (ds, gs, places) :=
  ⟨[.agg [.lit (.int .i64 0), .lit (.int .i64 0), .nil, .nil, .nil], .lit (.int .i64 0)], [Rows.laid_loop_example_g00886_impl_directionSteps], MemPlace.row ⟨0, 0, none⟩ 12, by kernel_rfl⟩

set_option maxRecDepth 100000 in
theorem lifted (os : Os) (started : os.Started) (H : Type) (enc : TypeId × Value → H) (F : Stop.Interp) :
    ReturnsInHanded {} Tryd.checked os 5 .any ((OpenSpec.ofChange Rows.fnExactHexAtSpec).preRow enc Tryd.prog Tryd.f5 Rows.fnExactHexAtRow.domain false Rows.fnExactHexAtRow.laid) (((OpenSpec.ofChange Rows.fnExactHexAtSpec).at F).post enc Tryd.prog Tryd.f5 false true false false) := by
  obtain ⟨ds, gs, places, hx⟩ := reads os enc
  refine returnsInHanded_of_row (C := Tryd.checked) (s := OpenSpec.ofChange Rows.fnExactHexAtSpec) own started (by kernel_rfl) Tryd.func5
    (witness_row_at (enc := enc) (C := Tryd.checked) false (laidWorld os) #[.agg #[.int .i64 0, .int .i64 0, .slice none 0 0, .slice none 0 0, .slice none 0 0], .int .i64 0] rfl (by kernel_rfl) (by kernel_rfl) (by kernel_rfl)
      (OpenSpec.preRow_of_cond 8 hx (by kernel_rfl) (fun k hk => by cases hk) (by kernel_rfl) (laid_met os))) ?_
  intro W base args ds gs before hval hW _ _ _ hL _ _
  exact contract H enc W base args ds gs before hval hW hL

theorem said : Rows.FnExactHexAtSaid :=
  OpenClaim.holds_of_cond 5 Tryd.f5 rfl rfl rfl rfl rfl rfl rfl ⟨rfl, rfl, rfl, rfl, rfl⟩ rfl rfl rfl rfl rfl (by kernel_rfl) Tryd.func5 (by kernel_rfl)
    (of_decide_eq_true (by kernel_rfl)) (by unfold Func.isWrapper; first | (rw [if_pos (by decide +kernel)]; kernel_rfl) | (rw [if_neg (by decide +kernel)]; exact ⟨rfl, rfl⟩))
    (fun os started H enc _ F => by rw [OpenClaim.pre_eq_preRow]; exact lifted os started H enc F)

theorem plain (f : FuncId) (fn : Func) (hf : Tryd.pinned.checked.prog.funcNamed "loop.example/g00886/laws.FnExactHexAt" = some f) (hfn : Tryd.pinned.checked.prog.funcs[f]? = some fn) :
    false = Tryd.pinned.checked.prog.looks [] ∧ ∀ (j : Nat) t, fn.params[j]? = some t → Tryd.pinned.checked.prog.wantsStandIn t = false := by
  obtain rfl : f = 5 := Option.some.inj ((show Tryd.prog.funcNamed "loop.example/g00886/laws.FnExactHexAt" = some 5 by kernel_rfl).symm.trans hf) |>.symm
  obtain rfl : fn = Tryd.f5 := (Option.some.inj (Tryd.func5.symm.trans hfn)).symm
  refine ⟨by kernel_rfl, fun j t ht => ?_⟩
  rw [Tryd.params5] at ht
  have hm := Array.mem_of_getElem? ht
  simp only [List.mem_toArray, List.mem_cons, List.not_mem_nil, or_false] at hm
  rcases hm with rfl | rfl
  · exact (show Tryd.prog.wantsStandIn 24 = false by kernel_rfl)
  · exact (show Tryd.prog.wantsStandIn 3 = false by kernel_rfl)

/-- The card: the row, with what it lists tied to the program's text. -/
theorem card : Rows.FnExactHexAtCardSaid :=
  Claim7.holds_tied_plain_at .later [] _ _ _ _ said (fun _ h => by cases h) (by kernel_rfl) (fun _ h => by cases h) fnExactHexAt_row_tie rfl ⟨rfl, rfl⟩ (by kernel_rfl) rfl plain (by kernel_rfl)
#print axioms card
end Go.Proofs.YtpfnljhnjembpaaDoor.hexAtLaw
