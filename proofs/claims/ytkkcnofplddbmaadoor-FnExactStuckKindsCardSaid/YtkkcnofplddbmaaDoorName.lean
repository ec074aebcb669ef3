/-
  Names, the program's test and the reference's; slices of strings as lists: places of a string, whether it is there, and whether all names are valid and differ. Nothing that was there is changed.
-/
import Derived.Test.YtkkcnofplddbmaaDoorRulM
import Derived.Test.YtkkcnofplddbmaaDoorInts
namespace Go.Proofs.YtkkcnofplddbmaaDoor
open Go.RowKit

theorem low_step {s : ByteArray} {k : Nat} (h : k < s.size) : s.data.toList.drop k = s[k] :: s.data.toList.drop (k + 1) := by
  rw [List.drop_eq_getElem_cons (by simpa using h)]
  rfl
theorem low_no {c : UInt8} {l : List UInt8} (h : lowB c = false) : lowFrom (c :: l) = false := by simp [lowFrom, h]
theorem low_go {c : UInt8} {l : List UInt8} (h : lowB c = true) : lowFrom (c :: l) = lowFrom l := by simp [lowFrom, h]

set_option maxHeartbeats 400000 in
theorem isName_any (s : ByteArray) (w : World) :
    Calls Tryd.prog 96 #[.string s] w fun e w' => e = .returned (.bool (nameOk s)) ∧ w = w' := by
  by_cases h0 : s.size = 0
  · have e : nameOk s = false := by simp [nameOk, spB, h0]
    rw [e]
    have h1 : s.toList = [] := by rw [ByteArray.toList_eq]; exact List.eq_nil_of_length_eq_zero (by simpa using h0)
    have h2 : s = ByteArray.empty := ByteArray.ext (Array.toList_inj.1 (by rw [ByteArray.toList_eq] at h1; rw [h1]; rfl))
    subst h2
    clear h0 h1 e
    go_enter Tryd.func96, Tryd.ntmps96
    go_wp2
    go_ret
    exact ⟨rfl, rfl⟩
  · by_cases h8 : 8 < s.size
    · have e : nameOk s = false := by simp [nameOk, spB]; omega
      rw [e]
      have hz : ((s.size : Int) == 0) = false := by simpa using h0
      clear e h0
      go_enter Tryd.func96, Tryd.ntmps96
      go_wp2
      go_ret
      exact ⟨rfl, rfl⟩
    · have e : nameOk s = lowFrom s.data.toList := by
        have : spB 1 8 s.size = true := by simp [spB]; omega
        simp [nameOk, this]
      rw [e]
      obtain ⟨R, hR⟩ : ∃ R, R = lowFrom s.data.toList := ⟨_, rfl⟩
      rw [← hR]
      have HR := Lib.hid hR
      have hz : ((s.size : Int) == 0) = false := by simpa using h0
      have h8' : decide (8 < s.size) = false := by simpa using h8
      clear e hR h0
      go_enter Tryd.func96, Tryd.ntmps96
      go_wp2
      go_loop [3, 14] (fun _ i => ∃ k : Nat, k ≤ s.size ∧ i = .int .i64 k ∧ Hid (lowFrom (s.data.toList.drop k) = R)) (fun _ i => s.size - (intOf i).toNat)
      case atStart => exact ⟨0, by omega, rfl, Lib.hid HR.out.symm⟩
      case round =>
        obtain ⟨k, hk, rfl, hE⟩ := hrel
        by_cases hlt : k < s.size
        · have HX := Lib.hid (low_step hlt)
          cases hok : lowB s[k]
          · have HE2 : Hid (R = false) := Lib.hid (by rw [← hE.out, HX.out]; exact low_no hok)
            have hd : s[k].toNat < 97 ∨ 122 < s[k].toNat := by simp [lowB] at hok; omega
            clear hok
            rcases hd with hd | hd
            · go_wp2
              go_ret
              exact ⟨ret_bool HE2.out.symm, rfl⟩
            · have hd2 : ¬ s[k].toNat < 97 := by omega
              go_wp2
              go_ret
              exact ⟨ret_bool HE2.out.symm, rfl⟩
          · have HE2 : Hid (lowFrom (s.data.toList.drop (k + 1)) = R) := Lib.hid (by rw [← hE.out, HX.out]; exact (low_go hok).symm)
            have hd : ¬ s[k].toNat < 97 ∧ ¬ 122 < s[k].toNat := by simp [lowB] at hok; omega
            obtain ⟨hd1, hd2⟩ := hd
            clear hok
            go_wp2
            go_round
            case rel => exact ⟨k + 1, by omega, by go_num, HE2⟩
            case measure => simp [intOf]; omega
        · obtain rfl : k = s.size := by omega
          go_wp2
          go_ret
          refine ⟨ret_bool ?_, rfl⟩
          rw [← hE.out, List.drop_of_length_le (by simp)]
          rfl

end Go.Proofs.YtkkcnofplddbmaaDoor
