/-
  The law on IsHex holds at every hex: the program's answer is the reference's, and the argument reads as before. No condition.
-/
import Derived.Test.YtaakimjkfbpjdaaRows
import Derived.Test.YtaakimjkfbpjdaaHex
import Derived.Test.YtaakimjkfbpjdaaLaw
import Derived.ProofKit
import Derived.Lib.SmallJoins
import Derived.OpenShut
namespace Go.Proofs.Ytaakimjkfbpjdaa.isHexLaw
open Go.ChangeShapes Go.WideShapes Go.ChangeAt Go.RowKit Go.Joins

theorem walk (q r : Int) (w : World) :
    Calls Try.prog 4 #[hx q r] w fun e w' => e = .returned (.bool true) ∧ Kp w w' := by
  go_enter Try.func4, Try.ntmps4
  go_wp2_with (first | (go_at_call 19; refine (toHex_any _ _ _).mono ?_; rintro e w1 ⟨rfl, hk⟩; obtain ⟨hc, hf⟩ := hk.cells; have hz : w.heap.size < w1.heap.size := by have := hk.size; (try simp at this); omega) | (go_at_call 18; refine (specIsHex_any _ _ _).mono ?_; rintro e w2 ⟨rfl, hk2⟩; obtain ⟨hc2, hf2⟩ := hk2.cells; have hz2 : w.heap.size < w2.heap.size := by have := hk2.size; omega) | (go_at_call 20; refine (isHex_any _ _ _).mono ?_; rintro e w3 ⟨rfl, hk3⟩))
  go_ret
  exact ⟨rfl, ((((Kp.refl _).alloc _).trans (by assumption)).trans hk2).trans ((by assumption : Kp w2 _).trans hk3)⟩

set_option maxRecDepth 100000 in
theorem lifted (os : Os) (started : os.Started) (H : Type) (enc : TypeId × Value → H) :
    ReturnsInHanded {} Try.checked os 4 .any (Rows.fnExactIsHexSpec.pre6 enc Try.prog Try.f4 Rows.fnExactIsHexRow.domain false) (Rows.fnExactIsHexSpec.post enc Try.prog Try.f4 false true false false) := by
  refine returnsInHanded_of_change (C := Try.checked) own started (by kernel_rfl) Try.func4
    (ChangeSpec.witness6 (enc := enc) (C := Try.checked) false ⟨#[], #[.agg #[.int .i64 0, .int .i64 0]], []⟩ 8 (by kernel_rfl) (by kernel_rfl) (by kernel_rfl) (by kernel_rfl)) ?_
  intro W base args ds gs before hval0 hW _ _
  have hval : ∀ (j : Nat) t v, Try.f4.params[j]? = some t → args[j]? = some v → Value.okWide Try.prog W .any base t v := hval0
  have hW' := hW
  obtain ⟨p, q, hA0, hV, rfl, _, _⟩ := hW
  have hA : DataW.TrodAll enc Try.prog W 0 (fun _ => true) true Try.f4.params.toList args.toList ds p := hA0
  rw [Try.params4] at hA hval
  obtain ⟨v0, d0, rfl, rfl, h0⟩ := trodAll_one hA
  obtain ⟨rfl, rfl⟩ := trodVars_none hV
  obtain ⟨a, b, rfl, _, _⟩ := open_hex (hval 0 36 v0 rfl rfl) h0
  refine (walk a b W).mono fun e W' ⟨he, hg⟩ => ?_
  subst he
  exact ⟨_, rfl, law_post hW' laidOut (by kernel_rfl) (by kernel_rfl) (by kernel_rfl) Try.underlying4 rfl hg⟩

theorem proved : Rows.FnExactIsHexSaid :=
  OpenClaim.holds_of_wide 4 Try.f4 rfl rfl rfl rfl rfl rfl rfl ⟨rfl, rfl, rfl, rfl, rfl⟩ rfl rfl rfl rfl rfl (by kernel_rfl) Try.func4 (by kernel_rfl)
    (of_decide_eq_true (by kernel_rfl)) (by unfold Func.isWrapper; first | (rw [if_pos (by decide +kernel)]; kernel_rfl) | (rw [if_neg (by decide +kernel)]; exact ⟨rfl, rfl⟩))
    (fun os started H enc _ => lifted os started H enc)
#print axioms proved
end Go.Proofs.Ytaakimjkfbpjdaa.isHexLaw
