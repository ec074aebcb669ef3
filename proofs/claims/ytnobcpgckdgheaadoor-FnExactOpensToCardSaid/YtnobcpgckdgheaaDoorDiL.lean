/-
  Dice and numbers below another of a seed by the reference; the mix of a list by both sides. Nothing that was there is changed.
-/
import Derived.Test.YtnobcpgckdgheaaDoorDiK
namespace Go.Proofs.YtnobcpgckdgheaaDoor
open Go.RowKit

theorem dSeed_any (s : Int) (w : World) :
    Calls Tryd.prog 59 #[.int .i64 s] w fun e w' => e = .returned (.bool (seedB s)) ∧ w = w' := by
  have C := Lib.hid (l1In_sp s 0 4611686016279904236 w)
  have hE := Lib.hid (show spB 0 4611686016279904236 s = seedB s from rfl)
  generalize seedB s = X at *
  generalize spB 0 4611686016279904236 s = Y at *
  go_enter Tryd.func59, Tryd.ntmps59
  go_wp2_with fail
  refine C.out.mono ?_
  rintro e1 w1 ⟨rfl, rfl⟩
  go_wp2_with fail
  go_ret
  exact ⟨ret_bool hE.out, rfl⟩

theorem belX (s i n : Int) : belB s i n = (dieB s i && spB 1 1000000 n) := by simp [belB, dieB, Bool.and_assoc]
theorem dicX (s i n : Int) : dicB s i n = (dieB s i && (spB 0 8 n && decide (i + n ≤ 1000001))) := by simp [dicB, dieB, Bool.and_assoc]

def mixB (l : List Int) : Bool := decide (l.length ≤ 200)
theorem mixNumbersP_any (v : Value) (l : List Int) (w : World) (h : RdI w v l) (hl : l.length ≤ 1048576) (hg : SpanAt w 5 0 200) :
    Calls Tryd.prog 55 #[v] w fun e w' => e = .returned (ib (mixB l) (hashN (mixL l))) ∧ Kp w w' := by
  have HR := Lib.hid h
  have C0 := Lib.hid (has_any 0 200 (l.length : Int) w)
  have hbd := mixL_bd l
  have CM := Lib.hid (fun w h => mixOf_any v l w h hl)
  have CN := Lib.hid (fun w => number_any (mixL l).1 (mixL l).2 w hbd.1 hbd.2.1 hbd.2.2.1 (by omega))
  have hE := Lib.hid (show hashN ((mixL l).1, (mixL l).2) = hashN (mixL l) from rfl)
  rw [hE.out] at CN
  obtain ⟨A, c, rfl, h⟩ := h
  obtain ⟨g0, g1⟩ := hg
  generalize hashN (mixL l) = X at *
  generalize (mixL l).1 = a at *
  generalize (mixL l).2 = b at *
  clear h hE hbd
  by_cases hs : l.length ≤ 200
  · have hO : mixB l = true := by simp [mixB, hs]
    have h0 : spB 0 200 (l.length : Int) = true := by simp [spB]; omega
    rw [hO]
    rw [h0] at C0
    clear hO h0
    generalize l.length = n at *
    go_enter Tryd.func55, Tryd.ntmps55
    go_wp2_with fail
    refine C0.out.mono ?_
    rintro e1 w1 ⟨rfl, k1⟩
    have HR1 := Lib.hid (HR.out.keep k1)
    go_wp2_with fail
    refine (CM.out _ HR1.out).mono ?_
    rintro e2 w2 ⟨rfl, k2⟩
    go_wp2_with fail
    refine (CN.out _).mono ?_
    rintro e3 w3 ⟨rfl, k3⟩
    go_wp2_with fail
    go_ret2
    exact ⟨rfl, (k1.trans k2).trans k3⟩
  · have hO : mixB l = false := by simp [mixB, hs]
    have h0 : spB 0 200 (l.length : Int) = false := by simp [spB]; omega
    rw [hO]
    rw [h0] at C0
    clear hO h0
    generalize l.length = n at *
    go_enter Tryd.func55, Tryd.ntmps55
    go_wp2_with fail
    refine C0.out.mono ?_
    rintro e1 w1 ⟨rfl, k1⟩
    go_wp2_with fail
    go_ret2
    exact ⟨rfl, k1⟩
end Go.Proofs.YtnobcpgckdgheaaDoor
