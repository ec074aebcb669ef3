/-
  The law on NearestAlong holds at every list of hexes and every hex: the program's answer is the reference's, and the arguments read as before. No condition.
-/
import Derived.Test.YtaakimjkfbpjdaaOpenH
import Derived.Test.YtaakimjkfbpjdaaNearSpec
namespace Go.Proofs.Ytaakimjkfbpjdaa.nearestAlongLaw
open Go.ChangeShapes Go.WideShapes Go.ChangeAt Go.RowKit Go.Joins

set_option maxHeartbeats 8000000 in
theorem walk (v : Value) (l : List (Int × Int)) (q r : Int) (w : World) (hr : RdH w v l) (hm : l.length ≤ maxLen) :
    Calls Try.prog 10 #[v, hx q r] w fun e w' => e = .returned (.bool true) ∧ Kp w w' := by
  by_cases hbig : l.length ≤ 1048576
  · have HR := Lib.hid hr
    have CS := Lib.hid (fun v w h => specNearestAlong_any v l q r w h hbig)
    have CI := Lib.hid (fun v w h => nearestAlong_any v l q r w h hbig)
    have CT := Lib.hid (fun v w h => toHexS_any v l w h hbig)
    unfold NearPost at CS CI
    generalize nearI l q r = I at CS CI
    generalize nearOk l q r = B at CS CI
    have CE := Lib.hid (fun va vb w ha hb => eqHexS_same va vb l w ha hb (by omega))
    obtain ⟨A, c, rfl, _⟩ := hr
    obtain ⟨n, hn⟩ : ∃ n, l.length = n := ⟨_, rfl⟩
    rw [hn] at hbig HR ⊢
    clear hm hn
    have hlt : ¬ (1048576 : Int) - n < 0 := by omega
    have hb0 : Hid ((w.alloc (.cells #[.int .i64 q, .int .i64 r] 36)).cell? ⟨w.heap.size, 0, none⟩ = some (.int .i64 q) ∧ (w.alloc (.cells #[.int .i64 q, .int .i64 r] 36)).cell? ⟨w.heap.size, 1, none⟩ = some (.int .i64 r)) := Lib.hid (by simp [go_sem])
    have hk0 : Kp w (w.alloc (.cells #[.int .i64 q, .int .i64 r] 36)) := (Kp.refl _).alloc _
    go_enter Try.func10, Try.ntmps10
    go_wp2_with fail
    refine (szHexS_any A n c _ hbig).mono ?_
    rintro e w0 ⟨rfl, rfl⟩
    generalize w.alloc (.cells #[.int .i64 q, .int .i64 r] 36) = W at *
    have hs0 := hb0.out
    go_wp2_with fail
    go_region_held3 (fun w' => w'.cell? ⟨w.heap.size, 0, none⟩ = some (.int .i64 q) ∧ w'.cell? ⟨w.heap.size, 1, none⟩ = some (.int .i64 r)) (first | assumption | go_keep)
      (first
        | (go_at_call 37; refine (CT.out _ _ ?_).mono ?_; exact HR.out.keep (by repeat (first | exact hk0 | refine Kp.drew ?_ | refine Kp.trans ?_ (by assumption))); rintro e wa ⟨p0, rfl, op0, ka⟩; have sa := ka.two (by assumption); have RP := Lib.hid op0.rd; clear op0)
        | (go_at_call 19; refine (toHex_any _ _ _).mono ?_; rintro e wb ⟨rfl, kb⟩; have sb := kb.two (by assumption))
        | (go_at_call 36; refine (CS.out _ _ ?_).mono ?_; exact RP.out.keep (by repeat (first | exact Kp.refl _ | refine Kp.drew ?_ | refine Kp.trans ?_ (by assumption))); rintro e wc ⟨rfl, kc⟩; have sc := kc.two (by assumption)))
    all_goals
      have KC : Kp w wc := by repeat (first | exact hk0 | refine Kp.drew ?_ | refine Kp.trans ?_ (by assumption))
      have hsc : wc.cell? ⟨w.heap.size, 0, none⟩ = some (.int .i64 q) ∧ wc.cell? ⟨w.heap.size, 1, none⟩ = some (.int .i64 r) := sc
      clear hs0
      go_wp2_with fail
      refine (CT.out _ _ (HR.out.keep KC)).mono ?_
      rintro e wd ⟨x0, rfl, ox, kd⟩
      have OX := Lib.hid ox
      have sd := kd.two hsc
      clear ox
      go_wp2_with fail
      refine (toHex_any _ _ _).mono ?_
      rintro e we ⟨rfl, ke⟩
      have OX2 := Lib.hid (OX.out.keep ke)
      go_wp2_with fail
      refine (CI.out _ _ OX2.out.rd).mono ?_
      rintro e wf ⟨rfl, kf⟩
      have OX3 := Lib.hid (OX2.out.keep kf)
      have KF : Kp w wf := ((KC.trans kd).trans ke).trans kf
      go_wp2_with fail
      refine (CT.out _ _ (HR.out.keep KF)).mono ?_
      rintro e wg ⟨x2, rfl, ox2, kg⟩
      have R2 := Lib.hid ox2.rd
      clear ox2
      go_wp2_with fail
      refine (CE.out _ _ _ (OX3.out.keep kg).rd R2.out).mono ?_
      rintro e wh ⟨rfl, kh⟩
      go_wp2
      go_ret
      exact ⟨rfl, (KF.trans kg).trans kh⟩
  · have hb : 1048576 < l.length := by omega
    obtain ⟨A, c, rfl, _⟩ := hr
    go_enter Try.func10, Try.ntmps10
    go_wp2_with fail
    refine (szHexS_big A l.length c _ hb hm).mono ?_
    rintro e w0 ⟨rfl, rfl⟩
    go_wp2_with fail
    go_ret
    exact ⟨rfl, (Kp.refl _).alloc _⟩

set_option maxRecDepth 100000 in
theorem lifted (os : Os) (started : os.Started) (H : Type) (enc : TypeId × Value → H) :
    ReturnsInHanded {} Try.checked os 10 .any (Rows.fnExactNearestAlongSpec.pre6 enc Try.prog Try.f10 Rows.fnExactNearestAlongRow.domain false) (Rows.fnExactNearestAlongSpec.post enc Try.prog Try.f10 false true false false) := by
  refine returnsInHanded_of_change (C := Try.checked) own started (by kernel_rfl) Try.func10
    (ChangeSpec.witness6 (enc := enc) (C := Try.checked) false ⟨#[], #[.slice none 0 0, .agg #[.int .i64 0, .int .i64 0]], []⟩ 8 (by kernel_rfl) (by kernel_rfl) (by kernel_rfl) (by kernel_rfl)) ?_
  intro W base args ds gs before hval0 hW _ _
  have hval : ∀ (j : Nat) t v, Try.f10.params[j]? = some t → args[j]? = some v → Value.okWide Try.prog W .any base t v := hval0
  have hW' := hW
  obtain ⟨p, q, hA0, hV, rfl, _, _⟩ := hW
  have hA : DataW.TrodAll enc Try.prog W 0 (fun _ => true) true Try.f10.params.toList args.toList ds p := hA0
  rw [Try.params10] at hA hval
  obtain ⟨v0, v1, d0, d1, p0, p1, rfl, rfl, rfl, h0, h1⟩ := trodAll_two hA
  obtain ⟨rfl, rfl⟩ := trodVars_none hV
  obtain ⟨l0, hl0, hm0⟩ := rdH_of_trod (hval 0 51 v0 rfl rfl) h0
  obtain ⟨q1, r1, rfl, _, _⟩ := open_hex (hval 1 36 v1 rfl rfl) h1
  refine (walk v0 l0 q1 r1 W hl0 hm0).mono fun e W' ⟨he, hg⟩ => ?_
  subst he
  exact ⟨_, rfl, law_post hW' laidOut (by kernel_rfl) (by kernel_rfl) (by kernel_rfl) Try.underlying4 rfl hg⟩

theorem proved : Rows.FnExactNearestAlongSaid :=
  OpenClaim.holds_of_wide 10 Try.f10 rfl rfl rfl rfl rfl rfl rfl ⟨rfl, rfl, rfl, rfl, rfl⟩ rfl rfl rfl rfl rfl (by kernel_rfl) Try.func10 (by kernel_rfl)
    (of_decide_eq_true (by kernel_rfl)) (by unfold Func.isWrapper; first | (rw [if_pos (by decide +kernel)]; kernel_rfl) | (rw [if_neg (by decide +kernel)]; exact ⟨rfl, rfl⟩))
    (fun os started H enc _ => lifted os started H enc)
#print axioms proved
end Go.Proofs.Ytaakimjkfbpjdaa.nearestAlongLaw
