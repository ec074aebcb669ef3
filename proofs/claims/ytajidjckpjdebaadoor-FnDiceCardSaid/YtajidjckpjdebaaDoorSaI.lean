/-
  Comparing two lists of numbers that read the same, adding a list up. Nothing that was there is changed.
-/
import Derived.Test.YtajidjckpjdebaaDoorDiO
import Derived.Deep.QuietTactic
import Derived.BigQuiet
namespace Go.Proofs.YtajidjckpjdebaaDoor
open Go.RowKit

theorem sameInts_any (va vb : Value) (l : List Int) (w : World) (ha : RdI w va l) (hb : RdI w vb l) (hl : l.length ≤ 1048576) :
    Calls Tryd.prog 8 #[va, vb] w fun e w' => e = .returned (.bool true) ∧ Kp w w' := by
  obtain ⟨A, ca, rfl, ha⟩ := ha
  obtain ⟨B, cb, rfl, hb⟩ := hb
  have HA := Lib.hid ha
  have HB := Lib.hid hb
  clear ha hb
  generalize hn : l.length = n at *
  have HN := Lib.hid hn
  clear hn
  have hne : ((n : Int) != (n : Int)) = false := by simp
  go_enter Tryd.func8, Tryd.ntmps8
  go_wp2_with fail
  go_loopw [13] (fun i wr => ∃ k : Nat, k ≤ n ∧ i = .int .i64 k ∧ Kp w wr) (fun i _ => n - (intOf i).toNat)
  case atStart => exact ⟨0, by omega, rfl, Kp.refl _⟩
  case round =>
    obtain ⟨k, hk, rfl, kr⟩ := hrel
    by_cases hlt : k < n
    · obtain ⟨ga, oa, rfl, ca'⟩ := HA.out (by omega)
      obtain ⟨gb, ob, rfl, cb'⟩ := HB.out (by omega)
      obtain ⟨x, hx⟩ : ∃ x, l[k]? = some x := ⟨l[k]'(by have := HN.out; omega), List.getElem?_eq_getElem _⟩
      have a0 := kr.cell (ca' k x hx)
      have b0 := kr.cell (cb' k x hx)
      clear ca' cb' hx
      have hlt' : (k : Int) < n := by omega
      go_wp2_with fail
      go_quiet (fail)
      go_wp2_with fail
      go_roundw
      case rel => exact ⟨k + 1, by omega, by go_num, kr.drewN _⟩
      case measure => simp [intOf]; omega
    · obtain rfl : k = n := by omega
      go_wp2_with fail
      go_ret
      exact ⟨rfl, kr⟩

theorem pSum_any (v : Value) (l : List Int) (w : World) (h : RdI w v l) (hl : l.length ≤ 600) (hNB : NB 1000000 l) :
    Calls Tryd.prog 19 #[v] w fun e w' => e = .returned (.int .i64 (sumT l l.length)) ∧ w = w' := by
  obtain ⟨A, c, rfl, h⟩ := h
  have HA := Lib.hid h
  clear h
  generalize hn : l.length = n at *
  have HN := Lib.hid hn
  clear hn
  have HNB := Lib.hid hNB
  clear hNB
  go_enter Tryd.func19, Tryd.ntmps19
  go_wp2_with fail
  go_loop [3, 8] (fun s i => ∃ k : Nat, k ≤ n ∧ i = .int .i64 k ∧ s = .int .i64 (sumT l k)) (fun _ i => n - (intOf i).toNat)
  case atStart => exact ⟨0, by omega, rfl, rfl⟩
  case round =>
    obtain ⟨k, hk, rfl, rfl⟩ := hrel
    by_cases hlt : k < n
    · have hlt' : (k : Int) < n := by omega
      obtain ⟨g, off, rfl, hc⟩ := HA.out (by omega)
      have a0 := hc k _ (getI_some (by rw [HN.out]; exact hlt))
      have hb := sumT_bd (by omega) HNB.out k
      have hy := HNB.out.get (by omega) k
      have hS := Lib.hid (show sumT l (k + 1) = sumT l k + getI l k from rfl)
      generalize sumT l k = S at *
      generalize getI l k = y at *
      have ey : IntKind.i64.wrap (S + y) = S + y := IntWalk.i64_in _ (by omega)
      clear hc
      go_wp2_with fail
      go_round
      case rel => exact ⟨k + 1, by omega, by go_num, by rw [hS.out]⟩
      case measure => simp [intOf]; omega
    · obtain rfl : k = n := by omega
      go_wp2_with fail
      go_ret
      exact ⟨rfl, rfl⟩

end Go.Proofs.YtajidjckpjdebaaDoor
