/-
  The law on DiskOf holds at every hex and every radius: the program's list is the reference's, in memory of its own, and the arguments read as before. No condition.
-/
import Derived.Test.YtaakimjkfbpjdaaLaw
import Derived.Test.YtaakimjkfbpjdaaDiskImpl
namespace Go.Proofs.Ytaakimjkfbpjdaa.diskOfLaw
open Go.ChangeShapes Go.WideShapes Go.ChangeAt Go.RowKit Go.Joins

theorem diskL_short (m : Nat) (q r : Int) (h : m ≤ 6) : (diskL m q r).length ≤ 200 := by
  have := diskF_len m q r h (2 * m + 1)
  unfold diskL
  omega

/-- Every list that DiskOf may return is short. -/
theorem short (q r n : Int) : (if diskOk q r n = true then diskL n.toNat q r else []).length ≤ 200 := by
  split
  · rename_i h
    simp only [diskOk, Bool.and_eq_true, decide_eq_true_eq] at h
    exact diskL_short _ _ _ (by omega)
  · simp

set_option maxHeartbeats 4000000 in
theorem walk (q r n : Int) (w : World) :
    Calls Try.prog 6 #[hx q r, .int .i64 n] w fun e w' => e = .returned (.bool true) ∧ Kp w w' := by
  have hlen := short q r n
  have CS := Lib.hid (fun w => specDiskOf_any q r n w)
  have CI := Lib.hid (fun w => diskOf_any q r n w)
  unfold ListPost at CS CI
  generalize (if diskOk q r n = true then diskL n.toNat q r else []) = L at CS CI hlen
  generalize diskOk q r n = B at CS CI
  go_enter Try.func6, Try.ntmps6
  go_wp2_with fail
  refine (toHex_any _ _ _).mono ?_
  rintro e wa ⟨rfl, ka⟩
  have b0 : wa.cell? ⟨w.heap.size, 0, none⟩ = some (.int .i64 q) := ka.cell (by simp [go_sem])
  have b1 : wa.cell? ⟨w.heap.size, 1, none⟩ = some (.int .i64 r) := ka.cell (by simp [go_sem])
  have K1 : Kp w wa := ((Kp.refl _).alloc _).trans ka
  clear ka
  go_wp2_with fail
  refine (CS.out _).mono ?_
  rintro e wb ⟨v0, rfl, o0, kb⟩
  have R0 := Lib.hid o0.rd
  have b2 := kb.two ⟨b0, b1⟩
  clear o0
  go_wp2_with fail
  refine (toHex_any _ _ _).mono ?_
  rintro e wc ⟨rfl, kc⟩
  have b3 := kc.two b2
  have K2 : Kp w wc := (K1.trans kb).trans kc
  clear b2
  go_wp2_with fail
  refine (CI.out _).mono ?_
  rintro e wd ⟨v1, rfl, o1, kd⟩
  have O1 := Lib.hid o1
  have R1 := Lib.hid (R0.out.keep (kc.trans kd))
  have b4 := kd.two b3
  clear o1 b3
  go_wp2_with fail
  refine (eqHexS_same v1 v0 L _ O1.out.rd R1.out (by omega)).mono ?_
  rintro e we ⟨rfl, ke⟩
  have O2 := Lib.hid (O1.out.keep ke)
  have R2 := Lib.hid (R0.out.keep ((kc.trans kd).trans ke))
  have b5 := ke.two b4
  clear b4
  go_wp2_with fail
  refine (markHexS_any v1 L.length wc.heap.size (cellsH L) _ (by omega) O2.out).mono ?_
  rintro e wf ⟨rfl, om, gm⟩
  have KM : Kp wc wf := (kd.trans ke).grown gm (fun k e => (World.ownsRow.lt O2.out k e).1)
  have OM := Lib.hid om
  have R3 := Lib.hid ((R0.out.keep kc).keep KM)
  have b6 : wf.cell? ⟨w.heap.size, 0, none⟩ = some (.int .i64 q) ∧ wf.cell? ⟨w.heap.size, 1, none⟩ = some (.int .i64 r) := KM.two (kc.two (kb.two ⟨by assumption, by assumption⟩))
  have K4 : Kp w wf := K2.trans KM
  clear b5 gm om
  have hne : ((1 + 2 * (L.length : Int)) != (1 + 2 * (L.length : Int))) = false := by simp
  go_wp2_with fail
  refine (heldHexS_any v1 L.length wc.heap.size _ (by omega) OM.out).mono ?_
  rintro e wg ⟨rfl, rfl⟩
  go_wp2_with fail
  refine (toHex_any _ _ _).mono ?_
  rintro e wg ⟨rfl, kg⟩
  go_wp2_with fail
  refine (CI.out _).mono ?_
  rintro e wh ⟨v2, rfl, o2, kh⟩
  have O3 := Lib.hid o2
  have R4 := Lib.hid (R3.out.keep (kg.trans kh))
  have OM2 := Lib.hid (ownsRow_keep (ownsRow_keep OM.out kg) kh)
  clear o2
  go_wp2_with fail
  refine (eqHexS_same v2 v0 L _ O3.out.rd R4.out (by omega)).mono ?_
  rintro e wi ⟨rfl, ki⟩
  have OM3 := Lib.hid (ownsRow_keep OM2.out ki)
  go_wp2_with fail
  refine (heldHexS_any v1 L.length wc.heap.size _ (by omega) OM3.out).mono ?_
  rintro e wj ⟨rfl, rfl⟩
  go_wp2
  go_ret
  exact ⟨rfl, ((K4.trans kg).trans kh).trans ki⟩

set_option maxRecDepth 100000 in
theorem lifted (os : Os) (started : os.Started) (H : Type) (enc : TypeId × Value → H) :
    ReturnsInHanded {} Try.checked os 6 .any (Rows.fnExactDiskOfSpec.pre6 enc Try.prog Try.f6 Rows.fnExactDiskOfRow.domain false) (Rows.fnExactDiskOfSpec.post enc Try.prog Try.f6 false true false false) := by
  refine returnsInHanded_of_change (C := Try.checked) own started (by kernel_rfl) Try.func6
    (ChangeSpec.witness6 (enc := enc) (C := Try.checked) false ⟨#[], #[.agg #[.int .i64 0, .int .i64 0], .int .i64 0], []⟩ 8 (by kernel_rfl) (by kernel_rfl) (by kernel_rfl) (by kernel_rfl)) ?_
  intro W base args ds gs before hval0 hW _ _
  have hval : ∀ (j : Nat) t v, Try.f6.params[j]? = some t → args[j]? = some v → Value.okWide Try.prog W .any base t v := hval0
  have hW' := hW
  obtain ⟨p, q, hA0, hV, rfl, _, _⟩ := hW
  have hA : DataW.TrodAll enc Try.prog W 0 (fun _ => true) true Try.f6.params.toList args.toList ds p := hA0
  rw [Try.params6] at hA hval
  obtain ⟨v0, v1, d0, d1, p0, p1, rfl, rfl, rfl, h0, h1⟩ := trodAll_two hA
  obtain ⟨rfl, rfl⟩ := trodVars_none hV
  obtain ⟨q0, r0, rfl, _, _⟩ := open_hex (hval 0 36 v0 rfl rfl) h0
  obtain ⟨n1, rfl, _, _, wf1⟩ := open_int Try.underlying3 (hval 1 3 v1 rfl rfl) h1
  refine (walk q0 r0 n1 W).mono fun e W' ⟨he, hg⟩ => ?_
  subst he
  exact ⟨_, rfl, law_post hW' laidOut (by kernel_rfl) (by kernel_rfl) (by kernel_rfl) Try.underlying4 rfl hg⟩

theorem proved : Rows.FnExactDiskOfSaid :=
  OpenClaim.holds_of_wide 6 Try.f6 rfl rfl rfl rfl rfl rfl rfl ⟨rfl, rfl, rfl, rfl, rfl⟩ rfl rfl rfl rfl rfl (by kernel_rfl) Try.func6 (by kernel_rfl)
    (of_decide_eq_true (by kernel_rfl)) (by unfold Func.isWrapper; first | (rw [if_pos (by decide +kernel)]; kernel_rfl) | (rw [if_neg (by decide +kernel)]; exact ⟨rfl, rfl⟩))
    (fun os started H enc _ => lifted os started H enc)
#print axioms proved
end Go.Proofs.Ytaakimjkfbpjdaa.diskOfLaw
