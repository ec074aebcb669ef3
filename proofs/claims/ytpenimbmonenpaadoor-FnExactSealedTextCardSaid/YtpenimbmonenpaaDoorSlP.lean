/-
  The program's functions on seals that reach no text: valid seals and lists, joint seeds, chains. Nothing that was there is changed. The named variables hold what the program's text lays.
-/
import Derived.Test.YtpenimbmonenpaaDoorSlM
import Derived.Test.YtpenimbmonenpaaDoorApL
import Derived.Test.YtpenimbmonenpaaDoorPutI
namespace Go.Proofs.YtpenimbmonenpaaDoor
open Go.RowKit

set_option maxRecDepth 100000 in
set_option maxHeartbeats 4000000 in
theorem isSealedP_any (t s x : Int) (w : World) (hg0 : SpanAt w 0 0 30) (hg1 : SpanAt w 1 0 1) (hg2 : SpanAt w 2 0 4611686016279904236) :
    Calls Tryd.prog 13 #[slx t s x] w fun e w' => e = .returned (.bool (seaB ⟨t, s, x⟩)) ∧ Kp w w' := by
  have C0 := Lib.hid (fun w => has_any 0 30 t w)
  have C1 := Lib.hid (fun w => has_any 0 1 s w)
  have C2 := Lib.hid (fun w => has_any 0 4611686016279904236 x w)
  cases h0 : spB 0 30 t
  · rw [h0] at C0
    have hO : seaB ⟨t, s, x⟩ = false := by first | (unfold seaB; rw [h0]; rfl) | simp [seaB, seedB, h0]
    rw [hO]
    have K0 : Kp w (w.alloc (.cells #[.int .i64 t, .int .i64 s, .int .i64 x] 26)) := (Kp.refl w).alloc _
    have P0 : (w.alloc (.cells #[.int .i64 t, .int .i64 s, .int .i64 x] 26)).cell? ⟨w.heap.size, 0, none⟩ = some (.int .i64 t) := by simp [go_sem]
    have P1 : (w.alloc (.cells #[.int .i64 t, .int .i64 s, .int .i64 x] 26)).cell? ⟨w.heap.size, 1, none⟩ = some (.int .i64 s) := by simp [go_sem]
    have P2 : (w.alloc (.cells #[.int .i64 t, .int .i64 s, .int .i64 x] 26)).cell? ⟨w.heap.size, 2, none⟩ = some (.int .i64 x) := by simp [go_sem]
    go_enter Tryd.func13, Tryd.ntmps13
    obtain ⟨b0, c0⟩ := K0.two hg0
    go_wp2_with fail
    refine (C0.out _).mono ?_
    rintro e1 w1 ⟨rfl, k1⟩
    have K1 := K0.trans k1
    go_wp2_with fail
    go_ret
    exact ⟨rfl, K1⟩
  · rw [h0] at C0
    cases h1 : spB 0 1 s
    · rw [h1] at C1
      have hO : seaB ⟨t, s, x⟩ = false := by first | (unfold seaB; rw [h0, h1]; rfl) | simp [seaB, seedB, h0, h1]
      rw [hO]
      have K0 : Kp w (w.alloc (.cells #[.int .i64 t, .int .i64 s, .int .i64 x] 26)) := (Kp.refl w).alloc _
      have P0 : (w.alloc (.cells #[.int .i64 t, .int .i64 s, .int .i64 x] 26)).cell? ⟨w.heap.size, 0, none⟩ = some (.int .i64 t) := by simp [go_sem]
      have P1 : (w.alloc (.cells #[.int .i64 t, .int .i64 s, .int .i64 x] 26)).cell? ⟨w.heap.size, 1, none⟩ = some (.int .i64 s) := by simp [go_sem]
      have P2 : (w.alloc (.cells #[.int .i64 t, .int .i64 s, .int .i64 x] 26)).cell? ⟨w.heap.size, 2, none⟩ = some (.int .i64 x) := by simp [go_sem]
      go_enter Tryd.func13, Tryd.ntmps13
      obtain ⟨b0, c0⟩ := K0.two hg0
      go_wp2_with fail
      refine (C0.out _).mono ?_
      rintro e1 w1 ⟨rfl, k1⟩
      have K1 := K0.trans k1
      obtain ⟨b1, c1⟩ := K1.two hg1
      have p1 := k1.cell P1
      go_wp2_with fail
      refine (C1.out _).mono ?_
      rintro e2 w2 ⟨rfl, k2⟩
      have K2 := K1.trans k2
      go_wp2_with fail
      go_ret
      exact ⟨rfl, K2⟩
    · rw [h1] at C1
      cases h2 : spB 0 4611686016279904236 x
      · rw [h2] at C2
        have hO : seaB ⟨t, s, x⟩ = false := by first | (unfold seaB; rw [h0, h1, h2]; rfl) | simp [seaB, seedB, h0, h1, h2]
        rw [hO]
        have K0 : Kp w (w.alloc (.cells #[.int .i64 t, .int .i64 s, .int .i64 x] 26)) := (Kp.refl w).alloc _
        have P0 : (w.alloc (.cells #[.int .i64 t, .int .i64 s, .int .i64 x] 26)).cell? ⟨w.heap.size, 0, none⟩ = some (.int .i64 t) := by simp [go_sem]
        have P1 : (w.alloc (.cells #[.int .i64 t, .int .i64 s, .int .i64 x] 26)).cell? ⟨w.heap.size, 1, none⟩ = some (.int .i64 s) := by simp [go_sem]
        have P2 : (w.alloc (.cells #[.int .i64 t, .int .i64 s, .int .i64 x] 26)).cell? ⟨w.heap.size, 2, none⟩ = some (.int .i64 x) := by simp [go_sem]
        go_enter Tryd.func13, Tryd.ntmps13
        obtain ⟨b0, c0⟩ := K0.two hg0
        go_wp2_with fail
        refine (C0.out _).mono ?_
        rintro e1 w1 ⟨rfl, k1⟩
        have K1 := K0.trans k1
        obtain ⟨b1, c1⟩ := K1.two hg1
        have p1 := k1.cell P1
        go_wp2_with fail
        refine (C1.out _).mono ?_
        rintro e2 w2 ⟨rfl, k2⟩
        have K2 := K1.trans k2
        obtain ⟨b2, c2⟩ := K2.two hg2
        have p2 := (k1.trans k2).cell P2
        go_wp2_with fail
        refine (C2.out _).mono ?_
        rintro e3 w3 ⟨rfl, k3⟩
        have K3 := K2.trans k3
        go_wp2_with fail
        go_ret
        exact ⟨rfl, K3⟩
      · have hO : seaB ⟨t, s, x⟩ = true := by first | (unfold seaB; rw [h0, h1, h2]; rfl) | simp [seaB, seedB, h0, h1, h2]
        rw [hO]
        clear hO
        rw [h2] at C2
        have K0 : Kp w (w.alloc (.cells #[.int .i64 t, .int .i64 s, .int .i64 x] 26)) := (Kp.refl w).alloc _
        have P0 : (w.alloc (.cells #[.int .i64 t, .int .i64 s, .int .i64 x] 26)).cell? ⟨w.heap.size, 0, none⟩ = some (.int .i64 t) := by simp [go_sem]
        have P1 : (w.alloc (.cells #[.int .i64 t, .int .i64 s, .int .i64 x] 26)).cell? ⟨w.heap.size, 1, none⟩ = some (.int .i64 s) := by simp [go_sem]
        have P2 : (w.alloc (.cells #[.int .i64 t, .int .i64 s, .int .i64 x] 26)).cell? ⟨w.heap.size, 2, none⟩ = some (.int .i64 x) := by simp [go_sem]
        go_enter Tryd.func13, Tryd.ntmps13
        obtain ⟨b0, c0⟩ := K0.two hg0
        go_wp2_with fail
        refine (C0.out _).mono ?_
        rintro e1 w1 ⟨rfl, k1⟩
        have K1 := K0.trans k1
        obtain ⟨b1, c1⟩ := K1.two hg1
        have p1 := k1.cell P1
        go_wp2_with fail
        refine (C1.out _).mono ?_
        rintro e2 w2 ⟨rfl, k2⟩
        have K2 := K1.trans k2
        obtain ⟨b2, c2⟩ := K2.two hg2
        have p2 := (k1.trans k2).cell P2
        go_wp2_with fail
        refine (C2.out _).mono ?_
        rintro e3 w3 ⟨rfl, k3⟩
        have K3 := K2.trans k3
        go_wp2_with fail
        go_ret
        exact ⟨rfl, K3⟩

end Go.Proofs.YtpenimbmonenpaaDoor
