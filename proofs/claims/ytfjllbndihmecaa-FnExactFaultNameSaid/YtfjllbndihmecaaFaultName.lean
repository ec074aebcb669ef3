/-
  The law on FaultName holds at every number: the program's answer is the reference's. No condition.
-/
import Derived.Test.YtfjllbndihmecaaRows
import Derived.Test.YtfjllbndihmecaaHex
import Derived.Test.YtfjllbndihmecaaLaw
import Derived.ProofKit
import Derived.Lib.SmallJoins
import Derived.OpenShut
namespace Go.Proofs.Ytfjllbndihmecaa.faultNameLaw
open Go.ChangeShapes Go.WideShapes Go.ChangeAt Go.RowKit Go.Joins

def faultT (n : Int) : ByteArray := if n = 1 then ⟨#[115, 121, 110, 116, 97, 120]⟩ else if n = 2 then ⟨#[116, 119, 105, 99, 101]⟩ else if n = 3 then ⟨#[114, 97, 110, 103, 101]⟩ else if n = 4 then ⟨#[109, 105, 115, 115, 105, 110, 103]⟩ else ⟨#[]⟩

theorem specFaultName_any (n : Int) (w : World) :
    Calls Try.prog 4 #[.int .i64 n] w fun e w' => e = .returned (.string (faultT n)) ∧ Kp w w' := by
  by_cases h1 : n = 1
  · subst h1
    go_enter Try.func4, Try.ntmps4
    go_wp2
    go_ret
    exact ⟨rfl, by first | exact Kp.refl _ | exact (Kp.refl _).alloc _⟩
  by_cases h2 : n = 2
  · subst h2
    go_enter Try.func4, Try.ntmps4
    go_wp2
    go_ret
    exact ⟨rfl, by first | exact Kp.refl _ | exact (Kp.refl _).alloc _⟩
  by_cases h3 : n = 3
  · subst h3
    go_enter Try.func4, Try.ntmps4
    go_wp2
    go_ret
    exact ⟨rfl, by first | exact Kp.refl _ | exact (Kp.refl _).alloc _⟩
  by_cases h4 : n = 4
  · subst h4
    go_enter Try.func4, Try.ntmps4
    go_wp2
    go_ret
    exact ⟨rfl, by first | exact Kp.refl _ | exact (Kp.refl _).alloc _⟩
  have hF : Hid (faultT n = ⟨#[]⟩) := Lib.hid (by unfold faultT; rw [if_neg h1, if_neg h2, if_neg h3, if_neg h4])
  by_cases h5 : 1 ≤ n
  · have h6 : ¬ n ≤ 4 := by omega
    go_enter Try.func4, Try.ntmps4
    go_wp2
    go_ret
    exact ⟨by rw [hF.out] <;> rfl, Kp.refl _⟩
  · go_enter Try.func4, Try.ntmps4
    go_wp2
    go_ret
    exact ⟨by rw [hF.out] <;> rfl, Kp.refl _⟩

theorem faultName_any (n : Int) (w : World) :
    Calls Try.prog 5 #[.int .i64 n] w fun e w' => e = .returned (.string (faultT n)) ∧ Kp w w' := by
  by_cases h1 : n = 1
  · subst h1
    go_enter Try.func5, Try.ntmps5
    go_wp2
    go_ret
    exact ⟨rfl, by first | exact Kp.refl _ | exact (Kp.refl _).alloc _⟩
  by_cases h2 : n = 2
  · subst h2
    go_enter Try.func5, Try.ntmps5
    go_wp2
    go_ret
    exact ⟨rfl, by first | exact Kp.refl _ | exact (Kp.refl _).alloc _⟩
  by_cases h3 : n = 3
  · subst h3
    go_enter Try.func5, Try.ntmps5
    go_wp2
    go_ret
    exact ⟨rfl, by first | exact Kp.refl _ | exact (Kp.refl _).alloc _⟩
  by_cases h4 : n = 4
  · subst h4
    go_enter Try.func5, Try.ntmps5
    go_wp2
    go_ret
    exact ⟨rfl, by first | exact Kp.refl _ | exact (Kp.refl _).alloc _⟩
  have hF : Hid (faultT n = ⟨#[]⟩) := Lib.hid (by unfold faultT; rw [if_neg h1, if_neg h2, if_neg h3, if_neg h4])
  have g1 : (n == 1) = false := by simpa using h1
  have g2 : (n == 2) = false := by simpa using h2
  have g3 : (n == 3) = false := by simpa using h3
  have g4 : (n == 4) = false := by simpa using h4
  go_enter Try.func5, Try.ntmps5
  go_wp2
  go_ret
  exact ⟨by rw [hF.out] <;> rfl, Kp.refl _⟩

theorem walk (n : Int) (w : World) :
    Calls Try.prog 3 #[.int .i64 n] w fun e w' => e = .returned (.bool true) ∧ Kp w w' := by
  obtain ⟨X, hX⟩ : ∃ z, z = faultT n := ⟨_, rfl⟩
  have CS := Lib.hid (fun w => specFaultName_any n w)
  have CI := Lib.hid (fun w => faultName_any n w)
  rw [← hX] at CS CI
  clear hX
  go_enter Try.func3, Try.ntmps3
  go_wp2_with fail
  refine (CS.out _).mono ?_
  rintro e1 w1 ⟨rfl, k1⟩
  go_wp2_with fail
  refine (CI.out _).mono ?_
  rintro e2 w2 ⟨rfl, k2⟩
  go_wp2_with fail
  go_ret
  exact ⟨rfl, k1.trans k2⟩

set_option maxRecDepth 100000 in
theorem lifted (os : Os) (started : os.Started) (H : Type) (enc : TypeId × Value → H) :
    ReturnsInHanded {} Try.checked os 3 .any (Rows.fnExactFaultNameSpec.pre6 enc Try.prog Try.f3 Rows.fnExactFaultNameRow.domain false) (Rows.fnExactFaultNameSpec.post enc Try.prog Try.f3 false true false false) := by
  refine returnsInHanded_of_change (C := Try.checked) own started (by kernel_rfl) Try.func3
    (ChangeSpec.witness6 (enc := enc) (C := Try.checked) false ⟨#[], #[.int .i64 0], []⟩ 8 (by kernel_rfl) (by kernel_rfl) (by kernel_rfl) (by kernel_rfl)) ?_
  intro W base args ds gs before hval0 hW _ _
  have hval : ∀ (j : Nat) t v, Try.f3.params[j]? = some t → args[j]? = some v → Value.okWide Try.prog W .any base t v := hval0
  have hW' := hW
  obtain ⟨p, q, hA0, hV, rfl, _, _⟩ := hW
  have hA : DataW.TrodAll enc Try.prog W 0 (fun _ => true) true Try.f3.params.toList args.toList ds p := hA0
  rw [Try.params3] at hA hval
  obtain ⟨v0, d0, rfl, rfl, h0⟩ := trodAll_one hA
  obtain ⟨rfl, rfl⟩ := trodVars_none hV
  obtain ⟨n0, rfl, _, _, wf0⟩ := open_int Try.underlying3 (hval 0 3 v0 rfl rfl) h0
  refine (walk n0 W).mono fun e W' ⟨he, hg⟩ => ?_
  subst he
  exact ⟨_, rfl, law_post hW' laidOut (by kernel_rfl) (by kernel_rfl) (by kernel_rfl) Try.underlying4 rfl hg⟩

theorem proved : Rows.FnExactFaultNameSaid :=
  OpenClaim.holds_of_wide 3 Try.f3 rfl rfl rfl rfl rfl rfl rfl ⟨rfl, rfl, rfl, rfl, rfl⟩ rfl rfl rfl rfl rfl (by kernel_rfl) Try.func3 (by kernel_rfl)
    (of_decide_eq_true (by kernel_rfl)) (by unfold Func.isWrapper; first | (rw [if_pos (by decide +kernel)]; kernel_rfl) | (rw [if_neg (by decide +kernel)]; exact ⟨rfl, rfl⟩))
    (fun os started H enc _ => lifted os started H enc)
#print axioms proved
end Go.Proofs.Ytfjllbndihmecaa.faultNameLaw
