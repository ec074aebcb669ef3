/-
  The law on LineOf holds at every argument: the program's answer is the reference's, in memory of its own, and the arguments read as before. No condition.
-/
import Derived.Test.YtpfnljhnjembpaaLaw
import Derived.Test.YtpfnljhnjembpaaLineS
import Derived.Deep.RegionHeld3
namespace Go.Proofs.Ytpfnljhnjembpaa.lineOfLaw
open Go.ChangeShapes Go.WideShapes Go.ChangeAt Go.RowKit Go.Joins

theorem keep4 {W0 w w1 : World} {a b c d : Addr} {x y z u : Value} (k : Kp w w1) (h : (w.cell? a = some x ∧ w.cell? b = some y ∧ w.cell? c = some z ∧ w.cell? d = some u) ∧ Kp W0 w) :
    (w1.cell? a = some x ∧ w1.cell? b = some y ∧ w1.cell? c = some z ∧ w1.cell? d = some u) ∧ Kp W0 w1 := ⟨k.four h.1, h.2.trans k⟩
theorem drew4 {W0 w : World} {a b c d : Addr} {x y z u : Value} (h : (w.cell? a = some x ∧ w.cell? b = some y ∧ w.cell? c = some z ∧ w.cell? d = some u) ∧ Kp W0 w) :
    (w.drew.cell? a = some x ∧ w.drew.cell? b = some y ∧ w.drew.cell? c = some z ∧ w.drew.cell? d = some u) ∧ Kp W0 w.drew := ⟨h.1, h.2.drew⟩
theorem short (aq ar bq br : Int) : (if ok2 aq ar bq br = true then lineL aq ar bq br else []).length ≤ 200 ∧ ∀ l ∈ (if ok2 aq ar bq br = true then lineL aq ar bq br else []), l.length ≤ 2 := by
  split
  · rename_i h
    have hs : okH aq ar = true ∧ okH bq br = true := by simpa [ok2] using h
    have D1 := dist_bd hs.1 hs.2
    refine ⟨?_, lineF_in _ _ _ _ _ _⟩
    unfold lineL
    rw [lineF_len]
    omega
  · exact ⟨by simp, fun l h => by cases h⟩

set_option maxRecDepth 100000 in
set_option maxHeartbeats 16000000 in
theorem walk (q0 r0 q1 r1 : Int) (w : World) :
    Calls Try.prog 4 #[hx q0 r0, hx q1 r1] w fun e w' => e = .returned (.bool true) ∧ Kp w w' := by
  obtain ⟨B, hB⟩ : ∃ B, B = ok2 q0 r0 q1 r1 := ⟨_, rfl⟩
  obtain ⟨L, hL⟩ : ∃ L, L = (if ok2 q0 r0 q1 r1 = true then lineL q0 r0 q1 r1 else []) := ⟨_, rfl⟩
  have hsh := short q0 r0 q1 r1
  rw [← hL] at hsh
  obtain ⟨hlen, hin⟩ := hsh
  have HI := Lib.hid hin
  have CS : Hid (∀ w, Calls Try.prog 8 #[hx q0 r0, hx q1 r1] w fun e w' => ∃ v vs, e = .returned (.tuple #[v, .bool B]) ∧ OwnHH w' w.heap.size v L vs ∧ Kp w w') := Lib.hid fun w => by
    rw [hB, hL]
    exact specLineOf_any q0 r0 q1 r1 w
  have CI : Hid (∀ w, Calls Try.prog 7 #[hx q0 r0, hx q1 r1] w fun e w' => ∃ v vs, e = .returned (.tuple #[v, .bool B]) ∧ OwnHH w' w.heap.size v L vs ∧ Kp w w') := Lib.hid fun w => by
    rw [hB, hL]
    exact lineOf_any q0 r0 q1 r1 w
  have eB : (B != B) = false := by simp
  have hK := (kk_bd (L := L) (fun l h => Nat.le_trans (HI.out l h) (by omega)) L.length (Nat.le_refl _)).1
  have hKn : ¬ kk L L.length < 0 := by omega
  have hKe : (kk L L.length != kk L L.length) = false := by simp
  have hI1 := Lib.hid (fun l h => Nat.le_trans (HI.out l h) (show 2 ≤ 1000 by omega))
  have hI2 := Lib.hid (fun l h => Nat.le_trans (HI.out l h) (show 2 ≤ 100 by omega))
  clear hB hL hin hK
  have s0 : (((w.alloc (.cells #[.int .i64 q0, .int .i64 r0] 36)).alloc (.cells #[.int .i64 q1, .int .i64 r1] 36)).cell? ⟨w.heap.size, 0, none⟩ = some (.int .i64 q0) ∧ ((w.alloc (.cells #[.int .i64 q0, .int .i64 r0] 36)).alloc (.cells #[.int .i64 q1, .int .i64 r1] 36)).cell? ⟨w.heap.size, 1, none⟩ = some (.int .i64 r0) ∧ ((w.alloc (.cells #[.int .i64 q0, .int .i64 r0] 36)).alloc (.cells #[.int .i64 q1, .int .i64 r1] 36)).cell? ⟨w.heap.size + 1, 0, none⟩ = some (.int .i64 q1) ∧ ((w.alloc (.cells #[.int .i64 q0, .int .i64 r0] 36)).alloc (.cells #[.int .i64 q1, .int .i64 r1] 36)).cell? ⟨w.heap.size + 1, 1, none⟩ = some (.int .i64 r1)) ∧ Kp w ((w.alloc (.cells #[.int .i64 q0, .int .i64 r0] 36)).alloc (.cells #[.int .i64 q1, .int .i64 r1] 36)) := ⟨⟨by simp [go_sem], by simp [go_sem], by simp [go_sem], by simp [go_sem]⟩, ((Kp.refl w).alloc _).alloc _⟩
  go_enter Try.func4, Try.ntmps4
  go_wp2_with fail
  have s1d := drew4 s0
  generalize ((w.alloc (.cells #[.int .i64 q0, .int .i64 r0] 36)).alloc (.cells #[.int .i64 q1, .int .i64 r1] 36)) = W0 at *
  go_region_held3 (fun w' => (w'.cell? ⟨w.heap.size, 0, none⟩ = some (.int .i64 q0) ∧ w'.cell? ⟨w.heap.size, 1, none⟩ = some (.int .i64 r0) ∧ w'.cell? ⟨w.heap.size + 1, 0, none⟩ = some (.int .i64 q1) ∧ w'.cell? ⟨w.heap.size + 1, 1, none⟩ = some (.int .i64 r1)) ∧ Kp w w') (first | assumption | exact s1d)
    (first
      | (go_at_call_of 12 q0; refine (toHex_any _ _ _).mono ?_; rintro e wa1 ⟨rfl, ka1⟩; have sa1 := keep4 ka1 (by assumption); have Ka1 := Lib.hid ka1)
      | (go_at_call 12; refine (toHex_any _ _ _).mono ?_; rintro e wb1 ⟨rfl, kb1⟩; have sb1 := keep4 kb1 (by assumption); have Kb1 := Lib.hid (Ka1.out.trans kb1))
      | (go_at_call 8; refine (CS.out _).mono ?_; rintro e wc1 ⟨v1, vs1, rfl, oc1, kc1⟩; have sc1 := keep4 kc1 (by assumption); have Kc1 := Lib.hid (Kb1.out.trans kc1); have Oc1 := Lib.hid oc1; clear oc1))
  have R0 := Lib.hid Oc1.out.rd
  have HS1 := Lib.hid sc1
  clear s0 s1d sa1 sb1 Ka1 Kb1 Kc1 Oc1
  have s2d := drew4 sc1
  go_wp2_with fail
  go_region_held3 (fun w' => (w'.cell? ⟨w.heap.size, 0, none⟩ = some (.int .i64 q0) ∧ w'.cell? ⟨w.heap.size, 1, none⟩ = some (.int .i64 r0) ∧ w'.cell? ⟨w.heap.size + 1, 0, none⟩ = some (.int .i64 q1) ∧ w'.cell? ⟨w.heap.size + 1, 1, none⟩ = some (.int .i64 r1)) ∧ Kp w w') (first | assumption | exact s2d)
    (first
      | (go_at_call_of 12 q0; refine (toHex_any _ _ _).mono ?_; rintro e wa2 ⟨rfl, ka2⟩; have sa2 := keep4 ka2 (by assumption); have Ka2 := Lib.hid ka2)
      | (go_at_call 12; refine (toHex_any _ _ _).mono ?_; rintro e wb2 ⟨rfl, kb2⟩; have sb2 := keep4 kb2 (by assumption); have Kb2 := Lib.hid (Ka2.out.trans kb2))
      | (go_at_call 7; refine (CI.out _).mono ?_; rintro e wc2 ⟨v2, vs2, rfl, oc2, kc2⟩; have sc2 := keep4 kc2 (by assumption); have Kc2 := Lib.hid (Kb2.out.trans kc2); have Oc2 := Lib.hid oc2; clear oc2))
  have K12 := Lib.hid ((Kp.refl wc1).drew.trans Kc2.out)
  have R0a := Lib.hid (R0.out.keep K12.out)
  clear sc1 s2d sa2 sb2 Ka2 Kc2
  go_wp2_with fail
  refine (eqHexSS_same v2 v1 L _ Oc2.out.rd R0a.out (by omega) hI1.out).mono ?_
  rintro e3 w3 ⟨rfl, k3⟩
  have O3 := Lib.hid (Oc2.out.keep k3)
  have s3 := keep4 k3 sc2
  have hz : wc1.heap.size ≤ wb2.heap.size := ((Kp.refl wc1).drew.trans Kb2.out).size
  have K13 : Kp wc1 w3 := K12.out.trans k3
  clear Oc2 R0a sc2 k3 Kb2 K12
  go_wp2_with fail
  refine (markHexSS_any v2 L vs2 wb2.heap.size wc1 _ O3.out K13 hz (by omega) hI2.out).mono ?_
  rintro e4 w4 ⟨rfl, m4, k14⟩
  have M4 := Lib.hid m4
  clear m4 O3 K13
  go_wp2_with fail
  refine (heldHexSS_any v2 L vs2 wb2.heap.size _ M4.out (by omega) hI2.out).mono ?_
  rintro e5 w5 ⟨rfl, rfl⟩
  have s4 := keep4 k14 HS1.out
  have s6d := drew4 s4
  go_wp2_with fail
  go_region_held3 (fun w' => (w'.cell? ⟨w.heap.size, 0, none⟩ = some (.int .i64 q0) ∧ w'.cell? ⟨w.heap.size, 1, none⟩ = some (.int .i64 r0) ∧ w'.cell? ⟨w.heap.size + 1, 0, none⟩ = some (.int .i64 q1) ∧ w'.cell? ⟨w.heap.size + 1, 1, none⟩ = some (.int .i64 r1)) ∧ Kp w w') (first | assumption | exact s6d)
    (first
      | (go_at_call_of 12 q0; refine (toHex_any _ _ _).mono ?_; rintro e wa6 ⟨rfl, ka6⟩; have sa6 := keep4 ka6 (by assumption); have Ka6 := Lib.hid ka6)
      | (go_at_call 12; refine (toHex_any _ _ _).mono ?_; rintro e wb6 ⟨rfl, kb6⟩; have sb6 := keep4 kb6 (by assumption); have Kb6 := Lib.hid (Ka6.out.trans kb6))
      | (go_at_call 7; refine (CI.out _).mono ?_; rintro e wc6 ⟨v6, vs6, rfl, oc6, kc6⟩; have sc6 := keep4 kc6 (by assumption); have Kc6 := Lib.hid (Kb6.out.trans kc6); have Oc6 := Lib.hid oc6; clear oc6))
  have K46 := Lib.hid ((Kp.refl w4).drew.trans Kc6.out)
  have R0b := Lib.hid (R0.out.keep (k14.trans K46.out))
  have M6 := Lib.hid (M4.out.keep K46.out)
  clear s4 s6d sa6 sb6 Ka6 Kb6 Kc6 s3
  go_wp2_with fail
  refine (eqHexSS_same v6 v1 L _ Oc6.out.rd R0b.out (by omega) hI1.out).mono ?_
  rintro e7 w7 ⟨rfl, k7⟩
  have M7 := Lib.hid (M6.out.keep k7)
  go_wp2_with fail
  refine (heldHexSS_any v2 L vs2 wb2.heap.size _ M7.out (by omega) hI2.out).mono ?_
  rintro e8 w8 ⟨rfl, rfl⟩
  go_wp2_with fail
  go_ret
  exact ⟨rfl, sc6.2.trans k7⟩

set_option maxRecDepth 100000 in
theorem lifted (os : Os) (started : os.Started) (H : Type) (enc : TypeId × Value → H) :
    ReturnsInHanded {} Try.checked os 4 .any (Rows.fnExactLineOfSpec.pre6 enc Try.prog Try.f4 Rows.fnExactLineOfRow.domain false) (Rows.fnExactLineOfSpec.post enc Try.prog Try.f4 false true false false) := by
  refine returnsInHanded_of_change (C := Try.checked) own started (by kernel_rfl) Try.func4
    (ChangeSpec.witness6 (enc := enc) (C := Try.checked) false ⟨#[], #[.agg #[.int .i64 0, .int .i64 0], .agg #[.int .i64 0, .int .i64 0]], []⟩ 8 (by kernel_rfl) (by kernel_rfl) (by kernel_rfl) (by kernel_rfl)) ?_
  intro W base args ds gs before hval0 hW _ _
  have hval : ∀ (j : Nat) t v, Try.f4.params[j]? = some t → args[j]? = some v → Value.okWide Try.prog W .any base t v := hval0
  have hW' := hW
  obtain ⟨p, q, hA0, hV, rfl, _, _⟩ := hW
  have hA : DataW.TrodAll enc Try.prog W 0 (fun _ => true) true Try.f4.params.toList args.toList ds p := hA0
  rw [Try.params4] at hA hval
  obtain ⟨v0, v1, d0, d1, p0, p1, rfl, rfl, rfl, h0, h1⟩ := trodAll_two hA
  obtain ⟨rfl, rfl⟩ := trodVars_none hV
  obtain ⟨q0, r0, rfl, _, _⟩ := open_hex (hval 0 36 v0 rfl rfl) h0
  obtain ⟨q1, r1, rfl, _, _⟩ := open_hex (hval 1 36 v1 rfl rfl) h1
  refine (walk q0 r0 q1 r1 W).mono fun e W' ⟨he, hg⟩ => ?_
  subst he
  exact ⟨_, rfl, law_post hW' laidOut (by kernel_rfl) (by kernel_rfl) (by kernel_rfl) Try.underlying4 rfl hg⟩

theorem proved : Rows.FnExactLineOfSaid :=
  OpenClaim.holds_of_wide 4 Try.f4 rfl rfl rfl rfl rfl rfl rfl ⟨rfl, rfl, rfl, rfl, rfl⟩ rfl rfl rfl rfl rfl (by kernel_rfl) Try.func4 (by kernel_rfl)
    (of_decide_eq_true (by kernel_rfl)) (by unfold Func.isWrapper; first | (rw [if_pos (by decide +kernel)]; kernel_rfl) | (rw [if_neg (by decide +kernel)]; exact ⟨rfl, rfl⟩))
    (fun os started H enc _ => lifted os started H enc)
#print axioms proved
end Go.Proofs.Ytpfnljhnjembpaa.lineOfLaw
