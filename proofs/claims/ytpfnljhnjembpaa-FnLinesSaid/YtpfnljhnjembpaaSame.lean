/-
  The laws' comparison of lists of hexes: true where both read as the same. Nothing that was there is changed.
-/
import Derived.Test.YtpfnljhnjembpaaHH
import Derived.Deep.QuietTactic
import Derived.BigQuiet
namespace Go.Proofs.Ytpfnljhnjembpaa
open Go.RowKit

theorem pSameHexes_same (va vb : Value) (l : List (Int × Int)) (w : World) (ha : RdH w va l) (hb : RdH w vb l) (hl : l.length ≤ 1000) :
    Calls Try.prog 10 #[va, vb] w fun e w' => e = .returned (.bool true) ∧ Kp w w' := by
  obtain ⟨A, ca, rfl, ha⟩ := ha
  obtain ⟨B, cb, rfl, hb⟩ := hb
  have HA := Lib.hid ha
  have HB := Lib.hid hb
  clear ha hb
  generalize hn : l.length = n at *
  have HN := Lib.hid hn
  clear hn
  go_enter Try.func10, Try.ntmps10
  go_wp2_with fail
  go_loopw [5, 13] (fun _ i wr => ∃ k : Nat, k ≤ n ∧ i = .int .i64 k ∧ Kp w wr) (fun _ i _ => n - (intOf i).toNat)
  case atStart => exact ⟨0, by omega, rfl, Kp.refl _⟩
  case round =>
    obtain ⟨k, hk, rfl, kr⟩ := hrel
    by_cases hlt : k < n
    · obtain ⟨ga, oa, rfl, ca'⟩ := HA.out (by omega)
      obtain ⟨gb, ob, rfl, cb'⟩ := HB.out (by omega)
      obtain ⟨x, hx⟩ : ∃ x, l[k]? = some x := ⟨l[k]'(by have := HN.out; omega), List.getElem?_eq_getElem _⟩
      have a0 := kr.cell (ca' k x hx).1
      have a1 := kr.cell (ca' k x hx).2
      have b0 := kr.cell (cb' k x hx).1
      have b1 := kr.cell (cb' k x hx).2
      clear ca' cb' hx
      have hlt' : (k : Int) < n := by omega
      go_wp2_with fail
      go_quiet (fail)
      go_wp2_with fail
      go_roundw
      case rel => exact ⟨k + 1, by omega, by go_num, kr.drewN _⟩
      case measure => simp [intOf]; omega
    · obtain rfl : k = n := by omega
      go_wp2_with fail
      go_ret
      exact ⟨rfl, kr⟩

set_option maxHeartbeats 1000000 in
theorem pSameLines_same (va vb : Value) (L : List (List (Int × Int))) (w : World) (ha : RdHH w va L) (hb : RdHH w vb L) (hl : L.length ≤ 1000) (hi : ∀ l ∈ L, l.length ≤ 1000) :
    Calls Try.prog 9 #[va, vb] w fun e w' => e = .returned (.bool true) ∧ Kp w w' := by
  obtain ⟨A, ca, va', rfl, hla, ha, ra⟩ := ha
  obtain ⟨B, cb, vb', rfl, hlb, hb, rb⟩ := hb
  have HA := Lib.hid ha
  have HB := Lib.hid hb
  have RA := Lib.hid ra
  have RB := Lib.hid rb
  have HI := Lib.hid hi
  have HLA := Lib.hid hla
  have HLB := Lib.hid hlb
  clear ha hb ra rb hi hla hlb
  generalize hn : L.length = n at *
  have HN := Lib.hid hn
  clear hn
  go_enter Try.func9, Try.ntmps9
  go_wp2_with fail
  go_loopw [5, 13] (fun _ i wr => ∃ k : Nat, k ≤ n ∧ i = .int .i64 k ∧ Kp w wr) (fun _ i _ => n - (intOf i).toNat)
  case atStart => exact ⟨0, by omega, rfl, Kp.refl _⟩
  case round =>
    obtain ⟨k, hk, rfl, kr⟩ := hrel
    by_cases hlt : k < n
    · obtain ⟨ga, oa, rfl, ca'⟩ := HA.out (by omega)
      obtain ⟨gb, ob, rfl, cb'⟩ := HB.out (by omega)
      obtain ⟨x, hx⟩ : ∃ x, va'[k]? = some x := ⟨va'[k]'(by have := HLA.out; omega), List.getElem?_eq_getElem _⟩
      obtain ⟨y, hy⟩ : ∃ y, vb'[k]? = some y := ⟨vb'[k]'(by have := HLB.out; omega), List.getElem?_eq_getElem _⟩
      obtain ⟨l, hl2⟩ : ∃ l, L[k]? = some l := ⟨L[k]'(by have := HN.out; omega), List.getElem?_eq_getElem _⟩
      have a0 := kr.cell (ca' k x hx)
      have b0 := kr.cell (cb' k y hy)
      have RX := Lib.hid ((RA.out k x l hx hl2).keep kr)
      have RY := Lib.hid ((RB.out k y l hy hl2).keep kr)
      have hll := Lib.hid (HI.out l (List.mem_of_getElem? hl2))
      clear ca' cb' hx hy hl2
      have hlt' : (k : Int) < n := by omega
      go_wp2_with fail
      go_region_held3 (fun w' => w'.cell? ⟨ga, oa + k, none⟩ = some x ∧ w'.cell? ⟨gb, ob + k, none⟩ = some y) (first | assumption | go_keep)
        (first | (go_at_call 10; refine (pSameHexes_same x y l _ (RX.out.keep ((Kp.refl _).drew)) (RY.out.keep ((Kp.refl _).drew)) (by have := hll.out; omega)).mono ?_; rintro e w1 ⟨rfl, k1⟩; have s1 := k1.two (by assumption)))
      all_goals
        go_wp2_with fail
        go_roundw
        case rel => exact ⟨k + 1, by omega, by go_num, kr.drew.trans k1⟩
        case measure => simp [intOf]; omega
    · obtain rfl : k = n := by omega
      go_wp2_with fail
      go_ret
      exact ⟨rfl, kr⟩

theorem big_no (A B : Option Addr) (n m c d : Nat) (w : World) (h : n + m ≤ 1048576) :
    Calls Try.prog 5 #[.slice A n c, .slice B m d] w fun e w' => e = .returned (.bool false) ∧ w = w' := by
  have h1 : decide ((1048576 : Int) < n) = false := by simp; omega
  have h2 : decide ((1048576 : Int) - n < m) = false := by simp; omega
  go_enter Try.func5, Try.ntmps5
  go_wp2_with fail
  go_ret
  exact ⟨rfl, rfl⟩
theorem big_yes (A B : Option Addr) (n m c d : Nat) (w : World) (h : ¬ n + m ≤ 1048576) (hn : n ≤ 9223372036854775807) :
    Calls Try.prog 5 #[.slice A n c, .slice B m d] w fun e w' => e = .returned (.bool true) ∧ w = w' := by
  by_cases h1 : (1048576 : Int) < n
  · go_enter Try.func5, Try.ntmps5
    go_wp2_with fail
    go_ret
    exact ⟨rfl, rfl⟩
  · have h2 : (1048576 : Int) - n < m := by omega
    have h1' : decide ((1048576 : Int) < n) = false := by simp; omega
    go_enter Try.func5, Try.ntmps5
    go_wp2_with fail
    go_ret
    exact ⟨rfl, rfl⟩

end Go.Proofs.Ytpfnljhnjembpaa
