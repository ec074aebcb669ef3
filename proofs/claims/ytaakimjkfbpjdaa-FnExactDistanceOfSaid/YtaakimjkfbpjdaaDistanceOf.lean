/-
  The law on DistanceOf holds at every pair of hexes: the program's answer is the reference's, and the arguments read as before. No condition.
-/
import Derived.Test.YtaakimjkfbpjdaaLaw
import Derived.Test.YtaakimjkfbpjdaaDist
import Derived.Deep.RegionHeld3
import Derived.Deep.DeepCutAuto
namespace Go.Proofs.Ytaakimjkfbpjdaa.distanceOfLaw
open Go.ChangeShapes Go.WideShapes Go.ChangeAt Go.RowKit Go.Joins

set_option maxHeartbeats 1000000 in
theorem walk (aq ar bq br : Int) (w : World) :
    Calls Try.prog 5 #[hx aq ar, hx bq br] w fun e w' => e = .returned (.bool true) ∧ Kp w w' := by
  go_enter Try.func5, Try.ntmps5
  go_wp2
  have hs0 : ((w.alloc (.cells #[.int .i64 aq, .int .i64 ar] 36)).alloc (.cells #[.int .i64 bq, .int .i64 br] 36)).cell? ⟨w.heap.size, 0, none⟩ = some (.int .i64 aq) ∧ ((w.alloc (.cells #[.int .i64 aq, .int .i64 ar] 36)).alloc (.cells #[.int .i64 bq, .int .i64 br] 36)).cell? ⟨w.heap.size, 1, none⟩ = some (.int .i64 ar) ∧ ((w.alloc (.cells #[.int .i64 aq, .int .i64 ar] 36)).alloc (.cells #[.int .i64 bq, .int .i64 br] 36)).cell? ⟨w.heap.size + 1, 0, none⟩ = some (.int .i64 bq) ∧ ((w.alloc (.cells #[.int .i64 aq, .int .i64 ar] 36)).alloc (.cells #[.int .i64 bq, .int .i64 br] 36)).cell? ⟨w.heap.size + 1, 1, none⟩ = some (.int .i64 br) := by simp [go_sem]
  generalize hw : (w.alloc (.cells #[.int .i64 aq, .int .i64 ar] 36)).alloc (.cells #[.int .i64 bq, .int .i64 br] 36) = W at *
  have hk0 : Kp w W := by rw [← hw]; exact ((Kp.refl _).alloc _).alloc _
  clear hw
  go_region_held3 (fun w' => w'.cell? ⟨w.heap.size, 0, none⟩ = some (.int .i64 aq) ∧ w'.cell? ⟨w.heap.size, 1, none⟩ = some (.int .i64 ar) ∧ w'.cell? ⟨w.heap.size + 1, 0, none⟩ = some (.int .i64 bq) ∧ w'.cell? ⟨w.heap.size + 1, 1, none⟩ = some (.int .i64 br)) (first | assumption | go_keep)
    (first
      | (go_at_call 19; refine (toHex_any _ _ _).mono ?_; rintro e w1 ⟨rfl, hk⟩; have hs1 := hk.four (by assumption))
      | (go_at_call 21; refine (specDistanceOf_any _ _ _ _ _).mono ?_; rintro e w1 ⟨rfl, hk⟩; have hs1 := hk.four (by assumption)))
  go_wp2
  go_region_held3 (fun w' => w'.cell? ⟨w.heap.size, 0, none⟩ = some (.int .i64 aq) ∧ w'.cell? ⟨w.heap.size, 1, none⟩ = some (.int .i64 ar) ∧ w'.cell? ⟨w.heap.size + 1, 0, none⟩ = some (.int .i64 bq) ∧ w'.cell? ⟨w.heap.size + 1, 1, none⟩ = some (.int .i64 br)) (first | assumption | go_keep)
    (first
      | (go_at_call 19; refine (toHex_any _ _ _).mono ?_; rintro e w1 ⟨rfl, hk⟩; have hs1 := hk.four (by assumption))
      | (go_at_call 17; refine (distanceOf_any _ _ _ _ _).mono ?_; rintro e w1 ⟨rfl, hk⟩; have hs1 := hk.four (by assumption)))
  go_wp2
  go_ret
  exact ⟨rfl, by repeat (first | exact hk0 | refine Kp.trans ?_ (by assumption) | refine Kp.drew ?_)⟩

set_option maxRecDepth 100000 in
theorem lifted (os : Os) (started : os.Started) (H : Type) (enc : TypeId × Value → H) :
    ReturnsInHanded {} Try.checked os 5 .any (Rows.fnExactDistanceOfSpec.pre6 enc Try.prog Try.f5 Rows.fnExactDistanceOfRow.domain false) (Rows.fnExactDistanceOfSpec.post enc Try.prog Try.f5 false true false false) := by
  refine returnsInHanded_of_change (C := Try.checked) own started (by kernel_rfl) Try.func5
    (ChangeSpec.witness6 (enc := enc) (C := Try.checked) false ⟨#[], #[.agg #[.int .i64 0, .int .i64 0], .agg #[.int .i64 0, .int .i64 0]], []⟩ 8 (by kernel_rfl) (by kernel_rfl) (by kernel_rfl) (by kernel_rfl)) ?_
  intro W base args ds gs before hval0 hW _ _
  have hval : ∀ (j : Nat) t v, Try.f5.params[j]? = some t → args[j]? = some v → Value.okWide Try.prog W .any base t v := hval0
  have hW' := hW
  obtain ⟨p, q, hA0, hV, rfl, _, _⟩ := hW
  have hA : DataW.TrodAll enc Try.prog W 0 (fun _ => true) true Try.f5.params.toList args.toList ds p := hA0
  rw [Try.params5] at hA hval
  obtain ⟨v0, v1, d0, d1, p0, p1, rfl, rfl, rfl, h0, h1⟩ := trodAll_two hA
  obtain ⟨rfl, rfl⟩ := trodVars_none hV
  obtain ⟨q0, r0, rfl, _, _⟩ := open_hex (hval 0 36 v0 rfl rfl) h0
  obtain ⟨q1, r1, rfl, _, _⟩ := open_hex (hval 1 36 v1 rfl rfl) h1
  refine (walk q0 r0 q1 r1 W).mono fun e W' ⟨he, hg⟩ => ?_
  subst he
  exact ⟨_, rfl, law_post hW' laidOut (by kernel_rfl) (by kernel_rfl) (by kernel_rfl) Try.underlying4 rfl hg⟩

theorem proved : Rows.FnExactDistanceOfSaid :=
  OpenClaim.holds_of_wide 5 Try.f5 rfl rfl rfl rfl rfl rfl rfl ⟨rfl, rfl, rfl, rfl, rfl⟩ rfl rfl rfl rfl rfl (by kernel_rfl) Try.func5 (by kernel_rfl)
    (of_decide_eq_true (by kernel_rfl)) (by unfold Func.isWrapper; first | (rw [if_pos (by decide +kernel)]; kernel_rfl) | (rw [if_neg (by decide +kernel)]; exact ⟨rfl, rfl⟩))
    (fun os started H enc _ => lifted os started H enc)
#print axioms proved
end Go.Proofs.Ytaakimjkfbpjdaa.distanceOfLaw
