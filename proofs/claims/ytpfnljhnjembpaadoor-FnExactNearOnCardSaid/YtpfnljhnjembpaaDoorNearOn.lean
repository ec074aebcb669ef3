/-
  The law on NearOn holds at every argument: the program's answer is the reference's, and the arguments read as before. The table of directions holds what the program's text lays (the card ties it).
-/
import Derived.Test.YtpfnljhnjembpaaDoorMapW
import Derived.Test.YtpfnljhnjembpaaDoorNearOnG
import Derived.Test.YtpfnljhnjembpaaDoorMarkI
namespace Go.Proofs.YtpfnljhnjembpaaDoor.nearOnLaw
open Go.ChangeShapes Go.WideShapes Go.ChangeAt Go.RowKit Go.Joins

theorem short (W H : Int) (lt lr ld : List Int) (i rad : Int) : (if nearOk W H lt lr ld i rad = true then nearF W (i % W) (i / W) rad (W * H).toNat else []).length ≤ 100 := by
  split
  · rename_i h
    have hm : mapOk W H lt lr ld = true := by
      simp only [nearOk, Bool.and_eq_true] at h
      exact h.1.1
    obtain ⟨a, b, c, e⟩ := mapOk_side hm
    have := area_bd a b c e
    have := nearF_len W (i % W) (i / W) rad (W * H).toNat
    omega
  · simp

set_option maxRecDepth 100000 in
set_option maxHeartbeats 16000000 in
theorem walk (W H : Int) (t r d : Value) (lt lr ld : List Int) (n1 n2 : Int) (w : World) (ht : Tab w) (hr : Reads w t r d lt lr ld) (_hn1 : isI64 n1) (_hn2 : isI64 n2) :
    Calls Tryd.prog 11 #[mp W H t r d, .int .i64 n1, .int .i64 n2] w fun e w' => e = .returned (.bool true) ∧ Kp w w' := by
  by_cases hbig : lt.length + lr.length + ld.length ≤ 1048576
  · have HL := Lib.hid (hr.lists hbig)
    have HT := Lib.hid ht
    obtain ⟨B, hB⟩ : ∃ x, x = (nearOk W H lt lr ld n1 n2) := ⟨_, rfl⟩
    obtain ⟨L, hL⟩ : ∃ x, x = (if nearOk W H lt lr ld n1 n2 = true then nearF W (n1 % W) (n1 / W) n2 (W * H).toNat else []) := ⟨_, rfl⟩
    have hn : L.length ≤ 100 := by rw [hL]; exact short W H lt lr ld n1 n2
    have CS : Hid (∀ t r d w, Lists w t r d lt lr ld → Calls Tryd.prog 34 #[mp W H t r d, .int .i64 n1, .int .i64 n2] w fun e w' => ∃ v, e = .returned (.tuple #[v, .bool B]) ∧ OwnI w' w.heap.size v L ∧ Kp w w') := Lib.hid fun t r d w h => by
      rw [hB, hL]
      exact specNearOn_any W H t r d lt lr ld n1 n2 w h
    have CI : Hid (∀ t r d w, Tab w → Lists w t r d lt lr ld → Calls Tryd.prog 35 #[mp W H t r d, .int .i64 n1, .int .i64 n2] w fun e w' => ∃ v, e = .returned (.tuple #[v, .bool B]) ∧ OwnI w' w.heap.size v L ∧ Kp w w') := Lib.hid fun t r d w k h => by
      rw [hB, hL]
      exact nearOn_any W H t r d lt lr ld n1 n2 w k h
    have eB : (B != B) = false := by simp
    clear hB hL
    obtain ⟨At, ct, rfl, _⟩ := hr.rt
    obtain ⟨Ar, cr, rfl, _⟩ := hr.rr
    obtain ⟨Ad, cd, rfl, _⟩ := hr.rd
    obtain ⟨S0, hS0⟩ : ∃ S0, szTot lt.length lr.length ld.length = S0 := ⟨_, rfl⟩
    have hs0 : 0 ≤ S0 := by rw [← hS0]; unfold szTot; rw [if_pos hbig]; omega
    have CZ := Lib.hid (fun w => szMap_s W H At Ar Ad lt.length ct lr.length cr ld.length cd S0 w hr.bt hr.br hr.bd hS0)
    obtain ⟨nt, hnt⟩ : ∃ n, lt.length = n := ⟨_, rfl⟩
    obtain ⟨nr, hnr⟩ : ∃ n, lr.length = n := ⟨_, rfl⟩
    obtain ⟨nd, hnd⟩ : ∃ n, ld.length = n := ⟨_, rfl⟩
    have CT := Lib.hid (fun t r d w (h : Lists w t r d lt lr ld) => toMap_sl W H t r d lt lr ld nt nr nd w h hnt hnr hnd)
    rw [hnt, hnr, hnd] at HL CZ ⊢
    have hb1 : nt ≤ 1048576 := by omega
    have hb2 : nr ≤ 1048576 := by omega
    have hb3 : nd ≤ 1048576 := by omega
    have HLN := Lib.hid (And.intro hnt (And.intro hnr hnd))
    clear hr ht hS0 hbig hnt hnr hnd
    have s0 := new5 w (.int .i64 W) (.int .i64 H) (.slice At nt ct) (.slice Ar nr cr) (.slice Ad nd cd) 24
    go_enter Tryd.func11, Tryd.ntmps11
    go_wp2_with fail
    refine (CZ.out _).mono ?_
    rintro e1 w1 ⟨rfl, k1⟩
    have s1 := keep5 k1 s0
    clear s0 k1
    go_wp2_with fail
    refine (CT.out _ _ _ _ (HL.out.keep s1.2.2.2.2.2)).mono ?_
    rintro e2 w2 ⟨A1, a1, A2, a2, A3, a3, rfl, o2, k2⟩
    have s2 := keep5 k2 s1
    have L2 := Lib.hid (o2.lists HL.out)
    clear s1 k2 o2
    go_wp2_with fail
    refine (CS.out _ _ _ _ L2.out).mono ?_
    rintro e3 w3 ⟨v0, rfl, o3, k3⟩
    have s3 := keep5 k3 s2
    have HS3 := Lib.hid s3
    have R0 := Lib.hid o3.rd
    clear s2 k3 L2 o3
    go_wp2_with fail
    refine (CT.out _ _ _ _ (HL.out.keep s3.2.2.2.2.2)).mono ?_
    rintro e4 w4 ⟨B1, b1, B2, b2, B3, b3, rfl, o4, k4⟩
    have HZ34 := Lib.hid k4.size
    have s4 := box10 (.int .i64 W) (.int .i64 H) (.slice B1 nt b1) (.slice B2 nr b2) (.slice B3 nd b3) 27 (keep5 k4 s3)
    have kb := (Kp.refl w4).alloc (.cells #[.int .i64 W, .int .i64 H, .slice B1 nt b1, .slice B2 nr b2, .slice B3 nd b3] 27)
    have O4 := Lib.hid (o4.keep kb)
    have K34 : Kp w3 (w4.alloc (.cells #[.int .i64 W, .int .i64 H, .slice B1 nt b1, .slice B2 nr b2, .slice B3 nd b3] 27)) := k4.trans kb
    have hz4 : w4.heap.size < (w4.alloc (.cells #[.int .i64 W, .int .i64 H, .slice B1 nt b1, .slice B2 nr b2, .slice B3 nd b3] 27)).heap.size := by simp
    have BO := Lib.hid (fun g => And.intro (fun e => (World.ownsRow.lt o4.ot g e).2) (And.intro (fun e => (World.ownsRow.lt o4.or g e).2) (fun e => (World.ownsRow.lt o4.od g e).2)))
    clear s3 k4 o4 kb
    go_wp2_with fail
    generalize hW5 : w4.alloc (.cells #[.int .i64 W, .int .i64 H, .slice B1 nt b1, .slice B2 nr b2, .slice B3 nd b3] 27) = W5 at *
    clear hW5
    refine (CI.out _ _ _ _ (HT.out.k5 s4.1) (O4.out.lists HL.out)).mono ?_
    rintro e6 w6 ⟨v1, rfl, o6, k6⟩
    have s6 := keep10 k6 s4
    have O6 := Lib.hid (o6.base (b := w4.heap.size + 1) (by omega))
    have O4a := Lib.hid (O4.out.keep k6)
    have K36 : Kp w3 w6 := K34.trans k6
    clear s4 o6 O4 K34 k6 hz4
    go_wp2_with fail
    refine (eqIntS_same v1 v0 L _ O6.out.rd (R0.out.keep K36) (by omega)).mono ?_
    rintro e7 w7 ⟨rfl, k7⟩
    have s7a := keep10 k7 s6
    have O6a := Lib.hid (O6.out.keep k7)
    have O4b := Lib.hid (O4a.out.keep k7)
    have K37 : Kp w3 w7 := K36.trans k7
    clear s6 O6 O4a K36 k7
    have s7 := drew10 s7a
    clear s7a
    go_wp2_with fail
    go_region_held3 (fun w' => (w'.cell? ⟨w.heap.size, 0, none⟩ = some (.int .i64 W) ∧ w'.cell? ⟨w.heap.size, 1, none⟩ = some (.int .i64 H) ∧ w'.cell? ⟨w.heap.size, 2, none⟩ = some (.slice At nt ct) ∧ w'.cell? ⟨w.heap.size, 3, none⟩ = some (.slice Ar nr cr) ∧ w'.cell? ⟨w.heap.size, 4, none⟩ = some (.slice Ad nd cd) ∧ Kp w w') ∧ w'.cell? ⟨w4.heap.size, 0, none⟩ = some (.int .i64 W) ∧ w'.cell? ⟨w4.heap.size, 1, none⟩ = some (.int .i64 H) ∧ w'.cell? ⟨w4.heap.size, 2, none⟩ = some (.slice B1 nt b1) ∧ w'.cell? ⟨w4.heap.size, 3, none⟩ = some (.slice B2 nr b2) ∧ w'.cell? ⟨w4.heap.size, 4, none⟩ = some (.slice B3 nd b3) ∧ Kp w w') (first | assumption | exact s7)
      (first
        | (go_at_call 15; refine (CT.out _ _ _ _ (HL.out.keep s7.1.2.2.2.2.2)).mono ?_; rintro e8 w8 ⟨C1, c1, C2, c2, C3, c3, rfl, o8, k8⟩; have s8 := keep10 k8 s7; have L8 := Lib.hid (o8.lists HL.out); have M8 := Lib.hid ((O4b.out.keep ((Kp.refl _).drew)).keep k8); have k78 := Lib.hid ((Kp.refl w7).drew.trans k8))
        | (go_at_call 17; refine (eqMap_same _ _ _ _ _ _ _ _ lt lr ld _ (M8.out.lists HL.out) L8.out).mono ?_; rintro e9 w9 ⟨rfl, k9⟩; have s9 := keep10 k9 s8; have M9 := Lib.hid (M8.out.keep k9); have k79 := Lib.hid (k78.out.trans k9)))
    have O9 := Lib.hid (O6a.out.keep k79.out)
    have K39 : Kp w3 w9 := K37.trans k79.out
    clear s7 s8 L8 M8 k78 k79 O6a O4b K37
    go_wp2_with fail
    refine (markMap_any _ _ _ _ _ lt lr ld nt nr nd w3.heap.size _ M9.out HLN.out.1 HLN.out.2.1 HLN.out.2.2 hb1 hb2 hb3).mono ?_
    rintro e10 w10 ⟨rfl, m10, _⟩
    have K3a : Kp w3 w10 := m10.kp M9.out K39 (Nat.le_refl _)
    have O10 : Hid (OwnI w10 (w4.heap.size + 1) v1 L) := Lib.hid (m10.own O9.out fun g hg => by
      have h1 := (World.ownsRow.lt O9.out g hg).1
      exact ⟨fun e => by have := (BO.out g).1 e; omega, fun e => by have := (BO.out g).2.1 e; omega, fun e => by have := (BO.out g).2.2 e; omega⟩)
    have hk0 : ¬ (1 + (nt : Int) + nr + nd) < 0 := by omega
    clear m10 M9 O9 K39 s9
    go_wp2_with fail
    refine (eqIntS_same v1 v0 L _ O10.out.rd (R0.out.keep K3a) (by omega)).mono ?_
    rintro e11 w11 ⟨rfl, k11⟩
    have O11 := Lib.hid (O10.out.keep k11)
    have K3b : Kp w3 w11 := K3a.trans k11
    have hz3 : w3.heap.size ≤ w4.heap.size + 1 := by have := HZ34.out; omega
    clear O10 K3a k11
    go_wp2_with fail
    refine (markIntS_own v1 L.length (w4.heap.size + 1) 1 (cellsI L) _ (by omega) (by omega) (by omega) O11.out).mono ?_
    rintro e12 w12 ⟨rfl, om, gm⟩
    have K3c : Kp w3 w12 := K3b.grown gm (fun k e => Nat.le_trans hz3 (World.ownsRow.lt O11.out k e).1)
    have OM := Lib.hid om
    have hne : ((1 + (L.length : Int)) != (1 + (L.length : Int))) = false := by simp
    clear om gm O11 K3b
    go_wp2_with fail
    refine (heldIntS_own v1 L.length (w4.heap.size + 1) 1 _ (by omega) (by omega) (by omega) OM.out).mono ?_
    rintro e13 w13 ⟨rfl, k13⟩
    have OM2 := Lib.hid (ownsRow_keep OM.out k13)
    have K3d : Kp w3 w13 := K3c.trans k13
    have s13 := keep5 K3d HS3.out
    clear K3c k13 OM HS3
    go_wp2_with fail
    refine (CT.out _ _ _ _ (HL.out.keep s13.2.2.2.2.2)).mono ?_
    rintro e14 w14 ⟨D1, d1, D2, d2, D3, d3, rfl, o14, k14⟩
    have s14 := keep5 k14 s13
    have L14 := Lib.hid (o14.lists HL.out)
    clear s13 o14
    go_wp2_with fail
    refine (CI.out _ _ _ _ (HT.out.k5 s14) L14.out).mono ?_
    rintro e15 w15 ⟨v2, rfl, o15, k15⟩
    have O15 := Lib.hid o15
    have K13 : Kp w13 w15 := k14.trans k15
    have Kw : Kp w w15 := s14.2.2.2.2.2.trans k15
    clear o15 k15 k14 s14 L14
    go_wp2_with fail
    refine (eqIntS_same v2 v0 L _ O15.out.rd (R0.out.keep (K3d.trans K13)) (by omega)).mono ?_
    rintro e16 w16 ⟨rfl, k16⟩
    have OM3 := Lib.hid (ownsRow_keep OM2.out (K13.trans k16))
    have Kx : Kp w w16 := Kw.trans k16
    clear OM2 K13 Kw O15 k16
    go_wp2_with fail
    refine (heldIntS_own v1 L.length (w4.heap.size + 1) 1 _ (by omega) (by omega) (by omega) OM3.out).mono ?_
    rintro e17 w17 ⟨rfl, k17⟩
    go_wp2_with fail
    go_ret
    exact ⟨rfl, Kx.trans k17⟩
  · obtain ⟨At, ct, rfl, _⟩ := hr.rt
    obtain ⟨Ar, cr, rfl, _⟩ := hr.rr
    obtain ⟨Ad, cd, rfl, _⟩ := hr.rd
    have hS0 : szTot lt.length lr.length ld.length = -1 := by unfold szTot; rw [if_neg hbig]
    have CZ := Lib.hid (fun w => szMap_s W H At Ar Ad lt.length ct lr.length cr ld.length cd (-1) w hr.bt hr.br hr.bd hS0)
    clear hr ht hS0 hbig
    go_enter Tryd.func11, Tryd.ntmps11
    go_wp2_with fail
    refine (CZ.out _).mono ?_
    rintro e1 w1 ⟨rfl, k1⟩
    go_wp2_with fail
    go_ret
    exact ⟨rfl, ((Kp.refl _).alloc _).trans k1⟩

set_option maxRecDepth 100000 in
theorem contract (H : Type) (enc : TypeId × Value → H) (W : World) (base : Nat) (args : Array Value) (ds gs : List (DataW H)) (before : List MemPlace)
    (hval : ∀ (j : Nat) t v, Tryd.f11.params[j]? = some t → args[j]? = some v → Value.okWide Tryd.prog W .any base t v)
    (hW : DataW.Whole enc Tryd.prog Tryd.f11.params.toList Rows.fnExactNearOnSpec.vars false W args.toList ds gs before) (hL : laidMetH Tryd.prog Rows.fnExactNearOnRow.laid W) :
    Calls Tryd.prog 11 args W fun e W' => ∃ v, e = .returned v ∧ Rows.fnExactNearOnSpec.post enc Tryd.prog Tryd.f11 false true false false W args v W' := by
  have hW' := hW
  obtain ⟨p, q, hA0, hV, rfl, hfz, hnd⟩ := hW
  have hA : DataW.TrodAll enc Tryd.prog W 0 (fun _ => true) true Tryd.f11.params.toList args.toList ds p := hA0
  rw [Tryd.params11] at hA hval
  obtain ⟨v0, v1, v2, d0, d1, d2, p0, p1, p2, rfl, rfl, rfl, h0, h1, h2⟩ := trodAll_three hA
  obtain ⟨_, _, _, _, g0, _, rfl, _, _, _, _, _⟩ := trodVars_one hV
  obtain ⟨wd0, ht0, t0, r0, e0, lt0, lr0, ld0, rfl, hR0⟩ := open_map5 (hval 0 24 v0 rfl rfl) h0
  obtain ⟨n1, rfl, _, _, wf1⟩ := open_int Tryd.underlying3 (hval 1 3 v1 rfl rfl) h1
  obtain ⟨n2, rfl, _, _, wf2⟩ := open_int Tryd.underlying3 (hval 2 3 v2 rfl rfl) h2
  refine (walk wd0 ht0 t0 r0 e0 lt0 lr0 ld0 n1 n2 W (tab_of_laid hL) hR0 (bounds_i64 wf1) (bounds_i64 wf2)).mono fun e W' ⟨he, hg⟩ => ?_
  subst he
  exact ⟨_, rfl, law_post hW' laidOut (by kernel_rfl) (by kernel_rfl) (by kernel_rfl) Tryd.underlying4 rfl hg⟩

theorem laid_met (os : Os) : laidMet Tryd.prog Rows.fnExactNearOnRow.laid ((laidWorld os).forCall (fun _ _ => 0) ⟨#[], #[.agg #[.int .i64 0, .int .i64 0, .slice none 0 0, .slice none 0 0, .slice none 0 0], .int .i64 0, .int .i64 0], []⟩).memory :=
  laidMet_of_run' 8 (by kernel_rfl) (by kernel_rfl)
theorem reads (os : Os) {H : Type} (enc : TypeId × Value → H) : ∃ ds gs places, DataW.whole enc Tryd.prog ((laidWorld os).forCall (fun _ _ => 0) ⟨#[], #[.agg #[.int .i64 0, .int .i64 0, .slice none 0 0, .slice none 0 0, .slice none 0 0], .int .i64 0, .int .i64 0], []⟩).memory Tryd.f11.params.toList Rows.fnExactNearOnSpec.vars false #[.agg #[.int .i64 0, .int .i64 0, .slice none 0 0, .slice none 0 0, .slice none 0 0], .int .i64 0, .int .i64 0].toList 8 = some (ds, gs, places) :=
  ⟨[.agg [.lit (.int .i64 0), .lit (.int .i64 0), .nil, .nil, .nil], .lit (.int .i64 0), .lit (.int .i64 0)], [Rows.laid_loop_example_g00886_impl_directionSteps], MemPlace.row ⟨0, 0, none⟩ 12, by kernel_rfl⟩

set_option maxRecDepth 100000 in
theorem lifted (os : Os) (started : os.Started) (H : Type) (enc : TypeId × Value → H) (F : Stop.Interp) :
    ReturnsInHanded {} Tryd.checked os 11 .any ((OpenSpec.ofChange Rows.fnExactNearOnSpec).preRow enc Tryd.prog Tryd.f11 Rows.fnExactNearOnRow.domain false Rows.fnExactNearOnRow.laid) (((OpenSpec.ofChange Rows.fnExactNearOnSpec).at F).post enc Tryd.prog Tryd.f11 false true false false) := by
  obtain ⟨ds, gs, places, hx⟩ := reads os enc
  refine returnsInHanded_of_row (C := Tryd.checked) (s := OpenSpec.ofChange Rows.fnExactNearOnSpec) own started (by kernel_rfl) Tryd.func11
    (witness_row_at (enc := enc) (C := Tryd.checked) false (laidWorld os) #[.agg #[.int .i64 0, .int .i64 0, .slice none 0 0, .slice none 0 0, .slice none 0 0], .int .i64 0, .int .i64 0] rfl (by kernel_rfl) (by kernel_rfl) (by kernel_rfl)
      (OpenSpec.preRow_of_cond 8 hx (by kernel_rfl) (fun k hk => by cases hk) (by kernel_rfl) (laid_met os))) ?_
  intro W base args ds gs before hval hW _ _ _ hL _ _
  exact contract H enc W base args ds gs before hval hW hL

theorem said : Rows.FnExactNearOnSaid :=
  OpenClaim.holds_of_cond 11 Tryd.f11 rfl rfl rfl rfl rfl rfl rfl ⟨rfl, rfl, rfl, rfl, rfl⟩ rfl rfl rfl rfl rfl (by kernel_rfl) Tryd.func11 (by kernel_rfl)
    (of_decide_eq_true (by kernel_rfl)) (by unfold Func.isWrapper; first | (rw [if_pos (by decide +kernel)]; kernel_rfl) | (rw [if_neg (by decide +kernel)]; exact ⟨rfl, rfl⟩))
    (fun os started H enc _ F => by rw [OpenClaim.pre_eq_preRow]; exact lifted os started H enc F)

theorem plain (f : FuncId) (fn : Func) (hf : Tryd.pinned.checked.prog.funcNamed "loop.example/g00886/laws.FnExactNearOn" = some f) (hfn : Tryd.pinned.checked.prog.funcs[f]? = some fn) :
    false = Tryd.pinned.checked.prog.looks [] ∧ ∀ (j : Nat) t, fn.params[j]? = some t → Tryd.pinned.checked.prog.wantsStandIn t = false := by
  obtain rfl : f = 11 := Option.some.inj ((show Tryd.prog.funcNamed "loop.example/g00886/laws.FnExactNearOn" = some 11 by kernel_rfl).symm.trans hf) |>.symm
  obtain rfl : fn = Tryd.f11 := (Option.some.inj (Tryd.func11.symm.trans hfn)).symm
  refine ⟨by kernel_rfl, fun j t ht => ?_⟩
  rw [Tryd.params11] at ht
  have hm := Array.mem_of_getElem? ht
  simp only [List.mem_toArray, List.mem_cons, List.not_mem_nil, or_false] at hm
  rcases hm with rfl | rfl | rfl
  · exact (show Tryd.prog.wantsStandIn 24 = false by kernel_rfl)
  · exact (show Tryd.prog.wantsStandIn 3 = false by kernel_rfl)
  · exact (show Tryd.prog.wantsStandIn 3 = false by kernel_rfl)

/-- The card: the row, with what it lists tied to the program's text. -/
theorem card : Rows.FnExactNearOnCardSaid :=
  Claim7.holds_tied_plain_at .later [] _ _ _ _ said (fun _ h => by cases h) (by kernel_rfl) (fun _ h => by cases h) fnExactNearOn_row_tie rfl ⟨rfl, rfl⟩ (by kernel_rfl) rfl plain (by kernel_rfl)
#print axioms card
end Go.Proofs.YtpfnljhnjembpaaDoor.nearOnLaw
