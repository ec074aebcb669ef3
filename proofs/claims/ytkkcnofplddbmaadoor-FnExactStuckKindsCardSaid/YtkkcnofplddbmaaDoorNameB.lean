/-
  The reference's test of a name; slices of strings as lists: the place of a string, whether it is there, and whether all names are valid and differ. Nothing that was there is changed.
-/
import Derived.Test.YtkkcnofplddbmaaDoorName
import Derived.Test.YtkkcnofplddbmaaDoorStep
namespace Go.Proofs.YtkkcnofplddbmaaDoor
open Go.RowKit

theorem l1In_sp (n lo hi : Int) (w : World) :
    Calls Tryd.prog 91 #[.int .i64 n, .int .i64 lo, .int .i64 hi] w fun e w' => e = .returned (.bool (spB lo hi n)) ∧ w = w' := l1In_gen n lo hi w

set_option maxHeartbeats 400000 in
theorem rName_any (s : ByteArray) (w : World) (hs : s.size ≤ 1048576) :
    Calls Tryd.prog 92 #[.string s] w fun e w' => e = .returned (.bool (nameOk s)) ∧ w = w' := by
  obtain ⟨R, hR⟩ : ∃ R, R = lowFrom s.data.toList := ⟨_, rfl⟩
  have e : nameOk s = (spB 1 8 s.size && R) := by rw [hR]; rfl
  rw [e]
  have HR := Lib.hid hR
  clear e hR
  go_enter Tryd.func92, Tryd.ntmps92
  go_wp2_with fail
  go_loop [3] (fun i => ∃ k : Nat, k ≤ s.size ∧ i = .int .i64 k ∧ Hid (lowFrom (s.data.toList.drop k) = R)) (fun i => s.size - (intOf i).toNat)
  case atStart => exact ⟨0, by omega, rfl, Lib.hid HR.out.symm⟩
  case round =>
    obtain ⟨k, hk, rfl, hE⟩ := hrel
    by_cases hlt : k < s.size
    · have HX := Lib.hid (low_step hlt)
      cases hok : lowB s[k]
      · have HE2 : Hid (R = false) := Lib.hid (by rw [← hE.out, HX.out]; exact low_no hok)
        have hd : s[k].toNat < 97 ∨ 122 < s[k].toNat := by simp [lowB] at hok; omega
        clear hok
        rcases hd with hd | hd
        · go_wp2_with fail
          go_ret
          exact ⟨ret_bool (by rw [HE2.out, Bool.and_false]), rfl⟩
        · have hd2 : ¬ s[k].toNat < 97 := by omega
          go_wp2_with fail
          go_ret
          exact ⟨ret_bool (by rw [HE2.out, Bool.and_false]), rfl⟩
      · have HE2 : Hid (lowFrom (s.data.toList.drop (k + 1)) = R) := Lib.hid (by rw [← hE.out, HX.out]; exact (low_go hok).symm)
        have hd : ¬ s[k].toNat < 97 ∧ ¬ 122 < s[k].toNat := by simp [lowB] at hok; omega
        obtain ⟨hd1, hd2⟩ := hd
        clear hok
        go_wp2_with fail
        go_round
        case rel => exact ⟨k + 1, by omega, by go_num, HE2⟩
        case measure => simp [intOf]; omega
    · obtain rfl : k = s.size := by omega
      have HR1 : Hid (R = true) := Lib.hid (by
        rw [← hE.out, List.drop_of_length_le (by simp)]
        rfl)
      go_wp2_with fail
      refine (l1In_sp _ _ _ _).mono ?_
      rintro e w1 ⟨rfl, rfl⟩
      go_wp2_with fail
      go_ret
      exact ⟨ret_bool (by rw [HR1.out, Bool.and_true]), rfl⟩

/-- The slice v reads as the list l of strings. -/
def RdS (w : World) (v : Value) (l : List ByteArray) : Prop :=
  ∃ A c, v = .slice A l.length c ∧ (0 < l.length → ∃ g off, A = some ⟨g, off, none⟩ ∧ ∀ i x, l[i]? = some x → w.cell? ⟨g, off + i, none⟩ = some (.string x))
theorem RdS.keep {w w' : World} {v : Value} {l : List ByteArray} (h : RdS w v l) (hk : Kp w w') : RdS w' v l := by
  obtain ⟨A, c, rfl, h⟩ := h
  refine ⟨A, c, rfl, fun h0 => ?_⟩
  obtain ⟨g, off, rfl, hc⟩ := h h0
  exact ⟨g, off, rfl, fun i x hx => hk.cell (hc i x hx)⟩

theorem getD_of {l : List ByteArray} {k : Nat} {x : ByteArray} (h : l[k]? = some x) : l.getD k ByteArray.empty = x := by simp [List.getD, h]
theorem idxS_hit {l : List ByteArray} {k : Nat} {x : ByteArray} (h : l[k]? = some x) (hn : ∀ j, j < k → l.getD j ByteArray.empty ≠ x) : idxS l x = k := by
  have := idxS_first (l := l) (k := k) (lt_of_at h) (fun j hj => by rw [getD_of h]; exact hn j hj)
  rwa [getD_of h] at this
theorem idxS_miss {l : List ByteArray} {x : ByteArray} (hn : ∀ j, j < l.length → l.getD j ByteArray.empty ≠ x) : idxS l x = -1 := by
  have := Lib.idxOfS_miss l l.length x hn
  rwa [List.take_length] at this
theorem not_more {l : List ByteArray} {k : Nat} {x m : ByteArray} (h : l[k]? = some x) (hne : x ≠ m) (hn : ∀ j, j < k → l.getD j ByteArray.empty ≠ m) : ∀ j, j < k + 1 → l.getD j ByteArray.empty ≠ m := fun j hj => by
  rcases Nat.lt_or_ge j k with h1 | h1
  · exact hn j h1
  · obtain rfl : j = k := by omega
    rw [getD_of h]
    exact hne

theorem indexS_any (v : Value) (l : List ByteArray) (m : ByteArray) (w : World) (h : RdS w v l) (hl : l.length ≤ 1048576) :
    Calls Tryd.prog 100 #[v, .string m] w fun e w' => e = .returned (.int .i64 (idxS l m)) ∧ w = w' := by
  obtain ⟨A, cp, rfl, h⟩ := h
  have HA := Lib.hid h
  obtain ⟨R, hR⟩ : ∃ R, R = idxS l m := ⟨_, rfl⟩
  rw [← hR]
  have HR := Lib.hid hR
  clear h hR
  generalize hn : l.length = n at *
  have HN := Lib.hid hn
  clear hn
  go_enter Tryd.func100, Tryd.ntmps100
  go_wp2_with fail
  go_loop [5, 8] (fun _ i => ∃ k : Nat, k ≤ n ∧ i = .int .i64 k ∧ Hid (∀ j, j < k → l.getD j ByteArray.empty ≠ m)) (fun _ i => n - (intOf i).toNat)
  case atStart => exact ⟨0, by omega, rfl, Lib.hid fun j hj => absurd hj (by omega)⟩
  case round =>
    obtain ⟨k, hk, rfl, hE⟩ := hrel
    by_cases hlt : k < n
    · obtain ⟨g, off, rfl, hc⟩ := HA.out (by omega)
      obtain ⟨x, hx⟩ : ∃ x, l[k]? = some x := ⟨l[k]'(by have := HN.out; omega), List.getElem?_eq_getElem _⟩
      have a0 := hc k x hx
      have HX := Lib.hid hx
      clear hc hx
      have hlt' : (k : Int) < n := by omega
      by_cases hok : x = m
      · have HE2 : Hid (R = (k : Int)) := Lib.hid (by rw [HR.out]; exact idxS_hit (by rw [← hok]; exact HX.out) hE.out)
        have he : (m.toList == x.toList) = true := (Lib.bytes_beq_iff m x).2 hok.symm
        clear hok
        go_wp2_with fail
        go_ret
        exact ⟨ret_int HE2.out.symm, rfl⟩
      · have HE2 := Lib.hid (not_more HX.out hok hE.out)
        have he : (m.toList == x.toList) = false := (Lib.bytes_beq_false_iff m x).2 (fun e => hok e.symm)
        clear hok
        go_wp2_with fail
        go_round
        case rel => exact ⟨k + 1, by omega, by go_num, HE2⟩
        case measure => simp [intOf]; omega
    · obtain rfl : k = n := by omega
      go_wp2_with fail
      go_ret
      refine ⟨ret_int ?_, rfl⟩
      rw [HR.out, idxS_miss (fun j hj => hE.out j (by have := HN.out; omega))]

theorem containsS_any (v : Value) (l : List ByteArray) (m : ByteArray) (w : World) (h : RdS w v l) (hl : l.length ≤ 1048576) :
    Calls Tryd.prog 97 #[v, .string m] w fun e w' => e = .returned (.bool (hasS l m)) ∧ w = w' := by
  obtain ⟨R, hR⟩ : ∃ R, R = idxS l m := ⟨_, rfl⟩
  have e : hasS l m = decide (0 ≤ R) := by rw [hR]; rfl
  have C := indexS_any v l m w h hl
  rw [← hR] at C
  rw [e]
  have HC := Lib.hid C
  clear hR C h e
  go_enter Tryd.func97, Tryd.ntmps97
  go_wp2_with fail
  refine HC.out.mono ?_
  rintro e w1 ⟨rfl, rfl⟩
  go_wp2_with fail
  go_ret
  exact ⟨rfl, rfl⟩

theorem nameAt_of {l : List ByteArray} {k : Nat} {x : ByteArray} (h : l[k]? = some x) : nameAt l k = (nameOk x && !hasS (l.take k) x) := by unfold nameAt; rw [getD_of h]
theorem names_more {l : List ByteArray} {k : Nat} (h : nameAt l k = true) (hn : ∀ j, j < k → nameAt l j = true) : ∀ j, j < k + 1 → nameAt l j = true := fun j hj => by
  rcases Nat.lt_or_ge j k with h1 | h1
  · exact hn j h1
  · obtain rfl : j = k := by omega
    exact h
theorem rdS_take {w : World} {l : List ByteArray} {g off k c : Nat} (hk : k ≤ l.length) (hc : ∀ i x, l[i]? = some x → w.cell? ⟨g, off + i, none⟩ = some (.string x)) : RdS w (.slice (some ⟨g, off, none⟩) k c) (l.take k) := by
  have e : (l.take k).length = k := by rw [List.length_take]; omega
  refine ⟨some ⟨g, off, none⟩, c, by rw [e], fun _ => ⟨g, off, rfl, fun i x hx => ?_⟩⟩
  rw [List.getElem?_take] at hx
  split at hx
  · exact hc i x hx
  · cases hx

set_option maxHeartbeats 1000000 in
theorem areNames_any (A : Option Addr) (n c : Nat) (l : List ByteArray) (w : World) (hn : l.length = n) (h : RdS w (.slice A n c) l) (hl : n ≤ 1048576) (hnc : n ≤ c) (hcc : c ≤ 9223372036854775807) :
    Calls Tryd.prog 58 #[.slice A n c] w fun e w' => e = .returned (.bool (namesOk l)) ∧ w = w' := by
  have HA : Hid (0 < n → ∃ g off, A = some ⟨g, off, none⟩ ∧ ∀ i x, l[i]? = some x → w.cell? ⟨g, off + i, none⟩ = some (.string x)) := Lib.hid (by
    obtain ⟨A', c', e, h⟩ := h
    simp only [Value.slice.injEq] at e
    obtain ⟨rfl, _, _⟩ := e
    rw [hn] at h
    exact h)
  obtain ⟨R, hR⟩ : ∃ R, R = namesOk l := ⟨_, rfl⟩
  rw [← hR]
  have HR := Lib.hid hR
  have HN := Lib.hid hn
  clear h hR hn
  go_enter Tryd.func58, Tryd.ntmps58
  go_wp2_with fail
  go_loop [3, 4, 7] (fun _ _ i => ∃ k : Nat, k ≤ n ∧ i = .int .i64 k ∧ Hid (∀ j, j < k → nameAt l j = true)) (fun _ _ i => n - (intOf i).toNat)
  case atStart => exact ⟨0, by omega, rfl, Lib.hid fun j hj => absurd hj (by omega)⟩
  case round =>
    obtain ⟨k, hk, rfl, hE⟩ := hrel
    by_cases hlt : k < n
    · obtain ⟨g, off, rfl, hc⟩ := HA.out (by omega)
      obtain ⟨x, hx⟩ : ∃ x, l[k]? = some x := ⟨l[k]'(by have := HN.out; omega), List.getElem?_eq_getElem _⟩
      have a0 := hc k x hx
      have HX := Lib.hid hx
      have HT := Lib.hid (rdS_take (w := w) (l := l) (g := g) (off := off) (k := k) (c := c) (by have := HN.out; omega) hc)
      have hlT : (l.take k).length ≤ 1048576 := by rw [List.length_take]; omega
      clear hc hx
      have hlt' : (k : Int) < n := by omega
      cases h1 : nameOk x
      · have HE2 : Hid (R = false) := Lib.hid (by rw [HR.out]; unfold namesOk; exact allN_no (k := k) (by have := HN.out; omega) (by rw [nameAt_of HX.out, h1]; rfl))
        go_wp2_with fail
        refine (isName_any _ _).mono ?_
        rintro e w1 ⟨rfl, rfl⟩
        go_wp2_with fail
        go_ret
        exact ⟨ret_bool HE2.out.symm, rfl⟩
      · cases h2 : hasS (l.take k) x
        · have HE2 := Lib.hid (names_more (by rw [nameAt_of HX.out, h1, h2]; rfl) hE.out)
          go_wp2_with fail
          refine (isName_any _ _).mono ?_
          rintro e w1 ⟨rfl, rfl⟩
          go_wp2_with fail
          refine (containsS_any _ (l.take k) _ _ HT.out hlT).mono ?_
          rintro e w1 ⟨rfl, rfl⟩
          go_wp2_with fail
          go_round
          case rel => exact ⟨k + 1, by omega, by go_num, HE2⟩
          case measure => simp [intOf]; omega
        · have HE2 : Hid (R = false) := Lib.hid (by rw [HR.out]; unfold namesOk; exact allN_no (k := k) (by have := HN.out; omega) (by rw [nameAt_of HX.out, h1, h2]; rfl))
          go_wp2_with fail
          refine (isName_any _ _).mono ?_
          rintro e w1 ⟨rfl, rfl⟩
          go_wp2_with fail
          refine (containsS_any _ (l.take k) _ _ HT.out hlT).mono ?_
          rintro e w1 ⟨rfl, rfl⟩
          go_wp2_with fail
          go_ret
          exact ⟨ret_bool HE2.out.symm, rfl⟩
    · obtain rfl : k = n := by omega
      go_wp2_with fail
      go_ret
      refine ⟨ret_bool ?_, rfl⟩
      rw [HR.out]
      unfold namesOk
      exact (allN_mk fun j hj => hE.out j (by have := HN.out; omega)).symm

end Go.Proofs.YtkkcnofplddbmaaDoor
