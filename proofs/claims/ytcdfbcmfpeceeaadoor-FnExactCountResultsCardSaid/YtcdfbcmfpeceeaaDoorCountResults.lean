/-
  The law on CountResults holds at every argument: the program's answer is the reference's, in memory of its own, and the arguments read as before. The named variables hold what the program's text lays (the card ties them).
-/
import Derived.Test.YtcdfbcmfpeceeaaDoorTbT
import Derived.Test.YtcdfbcmfpeceeaaDoorCtM
import Derived.Test.YtcdfbcmfpeceeaaDoorTabO
import Derived.Test.YtcdfbcmfpeceeaaDoorFcCountResults
namespace Go.Proofs.YtcdfbcmfpeceeaaDoor.countResultsLaw
open Go.ChangeShapes Go.WideShapes Go.ChangeAt Go.RowKit Go.Joins

theorem keep3k {W0 w w1 : World} {p0 p1 p2 : Addr} {v0 v1 v2 : Value} (k : Kp w w1) (h : w.cell? p0 = some v0 ∧ w.cell? p1 = some v1 ∧ w.cell? p2 = some v2 ∧ Kp W0 w) : w1.cell? p0 = some v0 ∧ w1.cell? p1 = some v1 ∧ w1.cell? p2 = some v2 ∧ Kp W0 w1 :=
  ⟨k.cell h.1, k.cell h.2.1, k.cell h.2.2.1, h.2.2.2.trans k⟩
theorem drew3k {W0 w : World} {p0 p1 p2 : Addr} {v0 v1 v2 : Value} (h : w.cell? p0 = some v0 ∧ w.cell? p1 = some v1 ∧ w.cell? p2 = some v2 ∧ Kp W0 w) : w.drew.cell? p0 = some v0 ∧ w.drew.cell? p1 = some v1 ∧ w.drew.cell? p2 = some v2 ∧ Kp W0 w.drew :=
  ⟨h.1, h.2.1, h.2.2.1, h.2.2.2.drew⟩
theorem keep6k {W0 w w1 : World} {p0 p1 p2 p3 p4 p5 : Addr} {v0 v1 v2 v3 v4 v5 : Value} (k : Kp w w1) (h : w.cell? p0 = some v0 ∧ w.cell? p1 = some v1 ∧ w.cell? p2 = some v2 ∧ w.cell? p3 = some v3 ∧ w.cell? p4 = some v4 ∧ w.cell? p5 = some v5 ∧ Kp W0 w) : w1.cell? p0 = some v0 ∧ w1.cell? p1 = some v1 ∧ w1.cell? p2 = some v2 ∧ w1.cell? p3 = some v3 ∧ w1.cell? p4 = some v4 ∧ w1.cell? p5 = some v5 ∧ Kp W0 w1 :=
  ⟨k.cell h.1, k.cell h.2.1, k.cell h.2.2.1, k.cell h.2.2.2.1, k.cell h.2.2.2.2.1, k.cell h.2.2.2.2.2.1, h.2.2.2.2.2.2.trans k⟩
theorem drew6k {W0 w : World} {p0 p1 p2 p3 p4 p5 : Addr} {v0 v1 v2 v3 v4 v5 : Value} (h : w.cell? p0 = some v0 ∧ w.cell? p1 = some v1 ∧ w.cell? p2 = some v2 ∧ w.cell? p3 = some v3 ∧ w.cell? p4 = some v4 ∧ w.cell? p5 = some v5 ∧ Kp W0 w) : w.drew.cell? p0 = some v0 ∧ w.drew.cell? p1 = some v1 ∧ w.drew.cell? p2 = some v2 ∧ w.drew.cell? p3 = some v3 ∧ w.drew.cell? p4 = some v4 ∧ w.drew.cell? p5 = some v5 ∧ Kp W0 w.drew :=
  ⟨h.1, h.2.1, h.2.2.1, h.2.2.2.1, h.2.2.2.2.1, h.2.2.2.2.2.1, h.2.2.2.2.2.2.drew⟩

set_option maxRecDepth 100000 in
set_option maxHeartbeats 16000000 in
theorem walk (c r : Value) (d : Int) (co : List (Int × Int)) (rs : List (List Int)) (cl : Int) (w : World) (hs : TbSp w) (hr : CtIn w c r co rs) (_hcl : isI64 cl) :
    Calls Tryd.prog 11 #[cv c d r, .int .i64 cl] w fun e' w' => e' = .returned (.bool true) ∧ Kp w w' := by
  have HR := Lib.hid hr
  have HS := Lib.hid hs
  obtain ⟨mc, e1⟩ : ∃ n, co.length = n := ⟨_, rfl⟩
  obtain ⟨mr, e2⟩ : ∃ n, rs.length = n := ⟨_, rfl⟩
  have HE1 := Lib.hid e1
  have HE2 := Lib.hid e2
  clear e1 e2
  obtain ⟨B, hB⟩ : ∃ z, z = ((tabOk co d rs && inCol co.length cl)) := ⟨_, rfl⟩
  obtain ⟨L, hL⟩ : ∃ z, z = (if ((tabOk co d rs && inCol co.length cl)) = true then (cntW (fun s => resI d rs s cl) (pS d.toNat)) else []) := ⟨_, rfl⟩
  have hn : L.length ≤ 100 := by
    rw [hL]
    split
    · rw [cntW_len]; omega
    · simp
  have CS : Hid (∀ (c r : Value) (w : World), CtAt w c r co rs → Calls Tryd.prog 43 #[cv c d r, .int .i64 cl] w fun e' w' => ∃ v, e' = .returned (.tuple #[v, .bool B]) ∧ OwnI w' w.heap.size v L ∧ Kp w w') := Lib.hid fun c r w h => by
    rw [hB, hL]
    exact specCountResults_any c r d co rs cl w h
  have CI : Hid (∀ (c r : Value) (w : World), CtAt w c r co rs → TbSp w → Calls Tryd.prog 44 #[cv c d r, .int .i64 cl] w fun e' w' => ∃ v, e' = .returned (.tuple #[v, .bool B]) ∧ OwnI w' w.heap.size v L ∧ Kp w w') := Lib.hid fun c r w h hs => by
    rw [hB, hL]
    exact countResults_any c r d co rs cl w h hs
  have eB : (B != B) = false := by simp
  clear hr hs hB hL
  have s0 : (w.alloc (.cells #[c, .int .i64 d, r] 53)).cell? ⟨w.heap.size, 0, none⟩ = some (c) ∧ (w.alloc (.cells #[c, .int .i64 d, r] 53)).cell? ⟨w.heap.size, 1, none⟩ = some (.int .i64 d) ∧ (w.alloc (.cells #[c, .int .i64 d, r] 53)).cell? ⟨w.heap.size, 2, none⟩ = some (r) ∧ Kp w (w.alloc (.cells #[c, .int .i64 d, r] 53)) := ⟨by simp [go_sem], by simp [go_sem], by simp [go_sem], (Kp.refl w).alloc _⟩
  go_enter Tryd.func11, Tryd.ntmps11
  go_wp2_with fail
  refine (szCombatTable_any _ _ _ co rs _ _ (HR.out.keep s0.2.2.2) (by omega) (by omega)).mono ?_
  rintro e1 w1 ⟨r1, rfl, u1, u2, u3, k1⟩
  have s1 := keep3k k1 s0
  have U3 := Lib.hid u3
  clear s0 k1 u3
  by_cases hneg : r1 < 0
  · go_wp2_with fail
    go_ret
    exact ⟨rfl, s1.2.2.2⟩
  have SM := Lib.hid (U3.out (by omega))
  have RA := Lib.hid (HR.out.at SM.out)
  clear U3
  go_wp2_with fail
  refine (toCombatTable_any _ _ _ co rs mc mr _ (RA.out.keep s1.2.2.2) HE1.out HE2.out).mono ?_
  rintro e2 w2 ⟨A1a, c1a, g2a, vsa, rfl, o2, k2⟩
  have s2 := keep3k k2 s1
  have L2 := Lib.hid (o2.at RA.out)
  clear s1 k2 o2
  go_wp2_with fail
  refine (CS.out _ _ _ L2.out).mono ?_
  rintro e3 w3 ⟨v0, rfl, o3, k3⟩
  have s3 := keep3k k3 s2
  have HS3 := Lib.hid s3
  have R0 := Lib.hid o3.rd
  clear s2 k3 L2 o3
  go_wp2_with fail
  refine (toCombatTable_any _ _ _ co rs mc mr _ (RA.out.keep s3.2.2.2) HE1.out HE2.out).mono ?_
  rintro e4 w4 ⟨A1b, c1b, g2b, vsb, rfl, o4, k4⟩
  have s4a := keep3k k4 s3
  have kb : Kp w4 (w4.alloc (.cells #[.slice A1b mc c1b, .int .i64 d, .slice (some ⟨g2b, 0, none⟩) mr mr] 26)) := (Kp.refl w4).alloc _
  have s4 : (w4.alloc (.cells #[.slice A1b mc c1b, .int .i64 d, .slice (some ⟨g2b, 0, none⟩) mr mr] 26)).cell? ⟨w.heap.size, 0, none⟩ = some (c) ∧ (w4.alloc (.cells #[.slice A1b mc c1b, .int .i64 d, .slice (some ⟨g2b, 0, none⟩) mr mr] 26)).cell? ⟨w.heap.size, 1, none⟩ = some (.int .i64 d) ∧ (w4.alloc (.cells #[.slice A1b mc c1b, .int .i64 d, .slice (some ⟨g2b, 0, none⟩) mr mr] 26)).cell? ⟨w.heap.size, 2, none⟩ = some (r) ∧ (w4.alloc (.cells #[.slice A1b mc c1b, .int .i64 d, .slice (some ⟨g2b, 0, none⟩) mr mr] 26)).cell? ⟨w4.heap.size, 0, none⟩ = some (.slice A1b mc c1b) ∧ (w4.alloc (.cells #[.slice A1b mc c1b, .int .i64 d, .slice (some ⟨g2b, 0, none⟩) mr mr] 26)).cell? ⟨w4.heap.size, 1, none⟩ = some (.int .i64 d) ∧ (w4.alloc (.cells #[.slice A1b mc c1b, .int .i64 d, .slice (some ⟨g2b, 0, none⟩) mr mr] 26)).cell? ⟨w4.heap.size, 2, none⟩ = some (.slice (some ⟨g2b, 0, none⟩) mr mr) ∧ Kp w (w4.alloc (.cells #[.slice A1b mc c1b, .int .i64 d, .slice (some ⟨g2b, 0, none⟩) mr mr] 26)) := ⟨kb.cell s4a.1, kb.cell s4a.2.1, kb.cell s4a.2.2.1, by simp [go_sem], by simp [go_sem], by simp [go_sem], s4a.2.2.2.trans kb⟩
  have HZ34 := Lib.hid k4.size
  have O4 := Lib.hid (o4.keep kb)
  have I4 := Lib.hid (o4.hi)
  have K34 : Kp w3 (w4.alloc (.cells #[.slice A1b mc c1b, .int .i64 d, .slice (some ⟨g2b, 0, none⟩) mr mr] 26)) := k4.trans kb
  have hz4 : w4.heap.size < (w4.alloc (.cells #[.slice A1b mc c1b, .int .i64 d, .slice (some ⟨g2b, 0, none⟩) mr mr] 26)).heap.size := by simp
  clear s3 k4 o4 s4a kb
  go_wp2_with fail
  generalize hW5 : w4.alloc (.cells #[.slice A1b mc c1b, .int .i64 d, .slice (some ⟨g2b, 0, none⟩) mr mr] 26) = W5 at *
  clear hW5
  refine (CI.out _ _ _ (O4.out.at RA.out) (HS.out.keep s4.2.2.2.2.2.2)).mono ?_
  rintro e6 w6 ⟨v1, rfl, o6, k6⟩
  have s6 := keep6k k6 s4
  have O6 := Lib.hid (o6.base (b := w4.heap.size + 1) (by omega))
  have O4a := Lib.hid (O4.out.keep k6)
  have K36 : Kp w3 w6 := K34.trans k6
  have hz6 := k6.size
  clear s4 o6 O4 K34 k6
  go_wp2_with fail
  refine (eqIntS_same v1 v0 L _ O6.out.rd (R0.out.keep K36) (by omega)).mono ?_
  rintro e7 w7 ⟨rfl, k7⟩
  have s7a := keep6k k7 s6
  have O6a := Lib.hid (O6.out.keep k7)
  have O4b := Lib.hid (O4a.out.keep k7)
  have K37 : Kp w3 w7 := K36.trans k7
  have hz7 := k7.size
  clear s6 O6 O4a K36 k7
  have s7 := drew6k s7a
  clear s7a
  go_wp2_with fail
  go_region_held3 (fun w' => w'.cell? ⟨w.heap.size, 0, none⟩ = some (c) ∧ w'.cell? ⟨w.heap.size, 1, none⟩ = some (.int .i64 d) ∧ w'.cell? ⟨w.heap.size, 2, none⟩ = some (r) ∧ w'.cell? ⟨w4.heap.size, 0, none⟩ = some (.slice A1b mc c1b) ∧ w'.cell? ⟨w4.heap.size, 1, none⟩ = some (.int .i64 d) ∧ w'.cell? ⟨w4.heap.size, 2, none⟩ = some (.slice (some ⟨g2b, 0, none⟩) mr mr) ∧ Kp w w') (first | assumption | exact s7)
    (first
      | (go_at_call 37; refine (toCombatTable_any _ _ _ co rs mc mr _ (RA.out.keep s7.2.2.2.2.2.2) HE1.out HE2.out).mono ?_; rintro e8 w8 ⟨A1c, c1c, g2c, vsc, rfl, o8, k8⟩; have s8 := keep6k k8 s7; have L8 := Lib.hid (o8.at RA.out); have MO := Lib.hid ((O4b.out.keep ((Kp.refl _).drew)).keep k8); have M8 := Lib.hid (MO.out.at RA.out); have k78 := Lib.hid ((Kp.refl w7).drew.trans k8))
      | (go_at_call 39; refine (eqCombatTable_same _ _ _ _ _ co rs _ M8.out L8.out).mono ?_; rintro e9 w9 ⟨rfl, k9⟩; have s9 := keep6k k9 s8; have M9 := Lib.hid (MO.out.keep k9); have k79 := Lib.hid (k78.out.trans k9)))
  have O9 := Lib.hid (O6a.out.keep k79.out)
  have K39 : Kp w3 w9 := K37.trans k79.out
  have hz9 := k79.out.size
  have hz39 := K39.size
  clear s7 s8 L8 M8 MO k78 k79 O6a O4b K37
  go_wp2_with fail
  refine (markCombatTable_w _ _ _ co rs _ w3.heap.size w3.heap.size w4.heap.size 1 _ M9.out SM.out (Nat.le_refl _) (by omega) I4.out.1 I4.out.2.2 (by omega) (by omega)).mono ?_
  rintro e10 w10 ⟨kk, rfl, y10, m10⟩
  have K3a : Kp w3 w10 := m10.kp K39 (Nat.le_refl _)
  have O10 : Hid (OwnI w10 (w4.heap.size + 1) v1 L) := Lib.hid (m10.own O9.out (fun g hg => by
    have h1 := (World.ownsRow.lt O9.out g hg).1
    omega))
  have hk0 : ¬ kk < 0 := by omega
  clear m10 M9 O9 K39 s9
  go_wp2_with fail
  refine (eqIntS_same v1 v0 L _ O10.out.rd (R0.out.keep K3a) (by omega)).mono ?_
  rintro e11 w11 ⟨rfl, k11⟩
  have O11 := Lib.hid (O10.out.keep k11)
  have K3b : Kp w3 w11 := K3a.trans k11
  have hz3 : w3.heap.size ≤ w4.heap.size + 1 := by have := HZ34.out; omega
  clear O10 K3a k11
  go_wp2_with fail
  refine (markIntS_own v1 L.length (w4.heap.size + 1) 1 (cellsI L) _ (by omega) (by omega) (by omega) O11.out).mono ?_
  rintro e12 w12 ⟨rfl, om, gm⟩
  have K3c : Kp w3 w12 := K3b.grown gm (fun k e => Nat.le_trans hz3 (World.ownsRow.lt O11.out k e).1)
  have OM := Lib.hid om
  have hne : ((1 + (L.length : Int)) != (1 + (L.length : Int))) = false := by simp
  clear om gm O11 K3b
  go_wp2_with fail
  refine (heldIntS_own v1 L.length (w4.heap.size + 1) 1 _ (by omega) (by omega) (by omega) OM.out).mono ?_
  rintro e13 w13 ⟨rfl, k13⟩
  have OM2 := Lib.hid (ownsRow_keep OM.out k13)
  have K3d : Kp w3 w13 := K3c.trans k13
  have s13 := keep3k K3d HS3.out
  clear K3c k13 OM HS3
  go_wp2_with fail
  refine (toCombatTable_any _ _ _ co rs mc mr _ (RA.out.keep s13.2.2.2) HE1.out HE2.out).mono ?_
  rintro e14 w14 ⟨A1d, c1d, g2d, vsd, rfl, o14, k14⟩
  have s14 := keep3k k14 s13
  have L14 := Lib.hid (o14.at RA.out)
  clear s13 o14
  go_wp2_with fail
  refine (CI.out _ _ _ L14.out (HS.out.keep s14.2.2.2)).mono ?_
  rintro e15 w15 ⟨v2, rfl, o15, k15⟩
  have O15 := Lib.hid o15
  have K13 : Kp w13 w15 := k14.trans k15
  have Kw : Kp w w15 := s14.2.2.2.trans k15
  clear o15 k15 k14 s14 L14
  go_wp2_with fail
  refine (eqIntS_same v2 v0 L _ O15.out.rd (R0.out.keep (K3d.trans K13)) (by omega)).mono ?_
  rintro e16 w16 ⟨rfl, k16⟩
  have OM3 := Lib.hid (ownsRow_keep OM2.out (K13.trans k16))
  have Kx : Kp w w16 := Kw.trans k16
  clear OM2 K13 Kw O15 k16
  go_wp2_with fail
  refine (heldIntS_own v1 L.length (w4.heap.size + 1) 1 _ (by omega) (by omega) (by omega) OM3.out).mono ?_
  rintro e17 w17 ⟨rfl, k17⟩
  go_wp2_with fail
  go_ret
  exact ⟨rfl, Kx.trans k17⟩

set_option maxRecDepth 100000 in
theorem contract (H : Type) (enc : TypeId × Value → H) (W : World) (base : Nat) (args : Array Value) (ds gs : List (DataW H)) (before : List MemPlace)
    (hval : ∀ (j : Nat) t v, Tryd.f11.params[j]? = some t → args[j]? = some v → Value.okWide Tryd.prog W .any base t v)
    (hW : DataW.Whole enc Tryd.prog Tryd.f11.params.toList Rows.fnExactCountResultsSpec.vars false W args.toList ds gs before) (hL : laidMetH Tryd.prog Rows.fnExactCountResultsRow.laid W) :
    Calls Tryd.prog 11 args W fun e W' => ∃ v, e = .returned v ∧ Rows.fnExactCountResultsSpec.post enc Tryd.prog Tryd.f11 false true false false W args v W' := by
  have hW' := hW
  obtain ⟨p, q, hA0, hV, rfl, hfz, hnd⟩ := hW
  have hA : DataW.TrodAll enc Tryd.prog W 0 (fun _ => true) true Tryd.f11.params.toList args.toList ds p := hA0
  rw [Tryd.params11] at hA hval
  obtain ⟨v0, v1, d0, d1, p0, p1, rfl, rfl, rfl, h0, h1⟩ := trodAll_two hA
  obtain ⟨_, _, _, _, rfl⟩ := lenv4 (trodVars_len hV)
  obtain ⟨c0, r0, d0, co0, rs0, rfl, hR0, hI0⟩ := open_table (hval 0 53 v0 rfl rfl) h0
  obtain ⟨n1, rfl, _, _, wf1⟩ := open_int Tryd.underlying3 (hval 1 3 v1 rfl rfl) h1
  refine (walk c0 r0 d0 co0 rs0 n1 W (t4_of hL) hR0 (bounds_i64 wf1)).mono fun e W' ⟨he, hg⟩ => ?_
  subst he
  exact ⟨_, rfl, law_post hW' laidOut (by kernel_rfl) (by kernel_rfl) (by kernel_rfl) Tryd.underlying4 rfl hg⟩

theorem laid_met (os : Os) : laidMet Tryd.prog Rows.fnExactCountResultsRow.laid ((laidWorldT os).forCall (fun _ _ => 0) ⟨#[], #[.agg #[.slice none 0 0, .int .i64 0, .slice none 0 0], .int .i64 0], []⟩).memory :=
  laidMet_of_run' 8 (by kernel_rfl) (by kernel_rfl)
theorem reads (os : Os) {H : Type} (enc : TypeId × Value → H) : ∃ ds gs places, DataW.whole enc Tryd.prog ((laidWorldT os).forCall (fun _ _ => 0) ⟨#[], #[.agg #[.slice none 0 0, .int .i64 0, .slice none 0 0], .int .i64 0], []⟩).memory Tryd.f11.params.toList Rows.fnExactCountResultsSpec.vars false #[.agg #[.slice none 0 0, .int .i64 0, .slice none 0 0], .int .i64 0].toList 8 = some (ds, gs, places) :=
  ⟨[.agg [.nil, .lit (.int .i64 0), .nil], .lit (.int .i64 0)], [Rows.laid_loop_example_g00886_impl_tableDiceSpan, Rows.laid_loop_example_g00886_impl_columnsSpan, Rows.laid_loop_example_g00886_impl_oddsSpan, Rows.laid_loop_example_g00886_impl_resultSpan], MemPlace.row ⟨3, 0, none⟩ 2 ++ (MemPlace.row ⟨5, 0, none⟩ 2 ++ (MemPlace.row ⟨6, 0, none⟩ 2 ++ (MemPlace.row ⟨2, 0, none⟩ 2))), by kernel_rfl⟩

set_option maxRecDepth 100000 in
theorem lifted (os : Os) (started : os.Started) (H : Type) (enc : TypeId × Value → H) (F : Stop.Interp) :
    ReturnsInHanded {} Tryd.checked os 11 .any ((OpenSpec.ofChange Rows.fnExactCountResultsSpec).preRow enc Tryd.prog Tryd.f11 Rows.fnExactCountResultsRow.domain false Rows.fnExactCountResultsRow.laid) (((OpenSpec.ofChange Rows.fnExactCountResultsSpec).at F).post enc Tryd.prog Tryd.f11 false true false false) := by
  obtain ⟨ds, gs, places, hx⟩ := reads os enc
  refine returnsInHanded_of_row (C := Tryd.checked) (s := OpenSpec.ofChange Rows.fnExactCountResultsSpec) own started (by kernel_rfl) Tryd.func11
    (witness_row_at (enc := enc) (C := Tryd.checked) false (laidWorldT os) #[.agg #[.slice none 0 0, .int .i64 0, .slice none 0 0], .int .i64 0] rfl (by kernel_rfl) (by kernel_rfl) (by kernel_rfl)
      (OpenSpec.preRow_of_cond 8 hx (by kernel_rfl) (fun k hk => by cases hk) (by kernel_rfl) (laid_met os))) ?_
  intro W base args ds gs before hval hW _ _ _ hL _ _
  exact contract H enc W base args ds gs before hval hW hL

theorem said : Rows.FnExactCountResultsSaid :=
  OpenClaim.holds_of_cond 11 Tryd.f11 rfl rfl rfl rfl rfl rfl rfl ⟨rfl, rfl, rfl, rfl, rfl⟩ rfl rfl rfl rfl rfl (by kernel_rfl) Tryd.func11 countResultsFacts.closed
    (of_decide_eq_true (by kernel_rfl)) (by unfold Func.isWrapper; first | (rw [if_pos (by decide +kernel)]; kernel_rfl) | (rw [if_neg (by decide +kernel)]; exact ⟨rfl, rfl⟩))
    (fun os started H enc _ F => by rw [OpenClaim.pre_eq_preRow]; exact lifted os started H enc F)

theorem plain (f : FuncId) (fn : Func) (hf : Tryd.pinned.checked.prog.funcNamed "loop.example/g00886/laws.FnExactCountResults" = some f) (hfn : Tryd.pinned.checked.prog.funcs[f]? = some fn) :
    true = Tryd.pinned.checked.prog.looks [] ∧ ∀ (j : Nat) t, fn.params[j]? = some t → Tryd.pinned.checked.prog.wantsStandIn t = false := by
  obtain rfl : f = 11 := Option.some.inj ((show Tryd.prog.funcNamed "loop.example/g00886/laws.FnExactCountResults" = some 11 by kernel_rfl).symm.trans hf) |>.symm
  obtain rfl : fn = Tryd.f11 := (Option.some.inj (Tryd.func11.symm.trans hfn)).symm
  refine ⟨by kernel_rfl, fun j t ht => ?_⟩
  rw [Tryd.params11] at ht
  have hm := Array.mem_of_getElem? ht
  simp only [List.mem_toArray, List.mem_cons, List.not_mem_nil, or_false] at hm
  rcases hm with rfl | rfl
  · exact (show Tryd.prog.wantsStandIn 53 = false by kernel_rfl)
  · exact (show Tryd.prog.wantsStandIn 3 = false by kernel_rfl)

/-- The card: the row, with what it lists tied to the program's text. -/
theorem card : Rows.FnExactCountResultsCardSaid :=
  Claim7.holds_tied_plain_at .later [] _ _ _ _ said (fun _ h => by cases h) (by kernel_rfl) (fun _ h => by cases h) fnExactCountResults_row_tie rfl ⟨rfl, rfl⟩ (by kernel_rfl) rfl plain (by kernel_rfl)
#print axioms card

end Go.Proofs.YtcdfbcmfpeceeaaDoor.countResultsLaw
