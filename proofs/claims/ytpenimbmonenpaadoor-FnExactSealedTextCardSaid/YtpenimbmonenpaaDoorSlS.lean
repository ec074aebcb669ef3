/-
  The reference's functions on seals that reach no text. Nothing that was there is changed.
-/
import Derived.Test.YtpenimbmonenpaaDoorSlM
import Derived.Test.YtpenimbmonenpaaDoorApL
namespace Go.Proofs.YtpenimbmonenpaaDoor
open Go.RowKit

set_option maxRecDepth 100000 in
set_option maxHeartbeats 4000000 in
theorem eGood_any (t s x : Int) (w : World) :
    Calls Tryd.prog 11 #[slx t s x] w fun e w' => e = .returned (.bool (seaB ⟨t, s, x⟩)) ∧ Kp w w' := by
  have C0 := Lib.hid (fun w => l1In_sp t 0 30 w)
  have C1 := Lib.hid (fun w => l1In_sp s 0 1 w)
  have C2 := Lib.hid (fun w => dSeed_any x w)
  cases h0 : spB 0 30 t
  · rw [h0] at C0
    have hO : seaB ⟨t, s, x⟩ = false := by first | (unfold seaB; rw [h0]; rfl) | simp [seaB, h0]
    rw [hO]
    go_enter Tryd.func11, Tryd.ntmps11
    go_wp2_with fail
    refine (C0.out _).mono ?_
    rintro e1 w1 ⟨rfl, rfl⟩
    go_wp2_with fail
    go_ret
    exact ⟨rfl, (Kp.refl w).alloc _⟩
  · rw [h0] at C0
    cases h1 : spB 0 1 s
    · rw [h1] at C1
      have hO : seaB ⟨t, s, x⟩ = false := by first | (unfold seaB; rw [h0, h1]; rfl) | simp [seaB, h0, h1]
      rw [hO]
      go_enter Tryd.func11, Tryd.ntmps11
      go_wp2_with fail
      refine (C0.out _).mono ?_
      rintro e1 w1 ⟨rfl, rfl⟩
      go_wp2_with fail
      refine (C1.out _).mono ?_
      rintro e2 w2 ⟨rfl, rfl⟩
      go_wp2_with fail
      go_ret
      exact ⟨rfl, (Kp.refl w).alloc _⟩
    · rw [h1] at C1
      cases h2 : seedB x
      · rw [h2] at C2
        have hO : seaB ⟨t, s, x⟩ = false := by first | (unfold seaB; rw [h0, h1, h2]; rfl) | simp [seaB, h0, h1, h2]
        rw [hO]
        go_enter Tryd.func11, Tryd.ntmps11
        go_wp2_with fail
        refine (C0.out _).mono ?_
        rintro e1 w1 ⟨rfl, rfl⟩
        go_wp2_with fail
        refine (C1.out _).mono ?_
        rintro e2 w2 ⟨rfl, rfl⟩
        go_wp2_with fail
        refine (C2.out _).mono ?_
        rintro e3 w3 ⟨rfl, rfl⟩
        go_wp2_with fail
        go_ret
        exact ⟨rfl, (Kp.refl w).alloc _⟩
      · have hO : seaB ⟨t, s, x⟩ = true := by first | (unfold seaB; rw [h0, h1, h2]; rfl) | simp [seaB, h0, h1, h2]
        rw [hO]
        clear hO
        rw [h2] at C2
        go_enter Tryd.func11, Tryd.ntmps11
        go_wp2_with fail
        refine (C0.out _).mono ?_
        rintro e1 w1 ⟨rfl, rfl⟩
        go_wp2_with fail
        refine (C1.out _).mono ?_
        rintro e2 w2 ⟨rfl, rfl⟩
        go_wp2_with fail
        refine (C2.out _).mono ?_
        rintro e3 w3 ⟨rfl, rfl⟩
        go_wp2_with fail
        go_ret
        exact ⟨rfl, (Kp.refl w).alloc _⟩

theorem joiB_alt (t : Int) (l : List Int) : joiB t l = (spB 0 30 t && (spB 1 4 (l.length : Int) && l.all (spB 0 4611686016279904236))) := by
  have e : spB 1 4 (l.length : Int) = (decide (l.length ≠ 0) && decide (l.length ≤ 4)) := by
    by_cases h1 : l.length = 0
    · simp [spB, h1]
    · by_cases h2 : l.length ≤ 4
      · have h3 : decide (l.length ≠ 0) = true := by simpa using h1
        have h4 : decide (l.length ≤ 4) = true := by simpa using h2
        rw [h3, h4]
        simp [spB]
        omega
      · have h4 : decide (l.length ≤ 4) = false := by simpa using h2
        rw [h4]
        simp [spB]
        omega
  rw [e, Bool.and_assoc]
  rfl
end Go.Proofs.YtpenimbmonenpaaDoor
