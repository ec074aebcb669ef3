/-
  The program's test of a terrain's numbers and its test of rules return what plain functions on lists say, and change nothing that was there. The ranges hold what the program's text lays.
-/
import Derived.Test.YtkkcnofplddbmaaDoorRulW
namespace Go.Proofs.YtkkcnofplddbmaaDoor
open Go.RowKit

abbrev tv (n : ByteArray) (A : Option Addr) (nc cc : Nat) (s h : Int) (b : Bool) : Value := .agg #[.string n, .slice A nc cc, .int .i64 s, .int .i64 h, .bool b]
theorem dropA {α : Type} {l : List α} {k : Nat} {x : α} (h : l[k]? = some x) : l.drop k = x :: l.drop (k + 1) := by
  obtain ⟨hk, rfl⟩ := List.getElem?_eq_some_iff.1 h
  exact List.drop_eq_getElem_cons hk
theorem allA_no {α : Type} {f : α → Bool} {x : α} {l : List α} (h : f x = false) : (x :: l).all f = false := by simp [h]
theorem allA_go {α : Type} {f : α → Bool} {x : α} {l : List α} (h : f x = true) : (x :: l).all f = l.all f := by simp [h]

set_option maxRecDepth 100000 in
set_option maxHeartbeats 2000000 in
theorem tNumbers_any (n : ByteArray) (A : Option Addr) (nc cc : Nat) (s h : Int) (b : Bool) (l : List Int) (nk : Nat) (w : World) (hs : Spans w) (hl : l.length = nc) (hr : RdI w (.slice A nc cc) l) (hn : nc ≤ 1048576) (_hk : nk ≤ 1048576) :
    Calls Tryd.prog 56 #[tv n A nc cc s h b, .int .i64 (nk : Int)] w fun e w' => e = .returned (.bool (numT nk ⟨n, l, s, h, b⟩)) ∧ Kp w w' := by
  have s0 : (w.alloc (.cells #[.string n, .slice A nc cc, .int .i64 s, .int .i64 h, .bool b] 79)).cell? ⟨w.heap.size, 0, none⟩ = some (.string n) ∧ (w.alloc (.cells #[.string n, .slice A nc cc, .int .i64 s, .int .i64 h, .bool b] 79)).cell? ⟨w.heap.size, 1, none⟩ = some (.slice A nc cc) ∧ (w.alloc (.cells #[.string n, .slice A nc cc, .int .i64 s, .int .i64 h, .bool b] 79)).cell? ⟨w.heap.size, 2, none⟩ = some (.int .i64 s) ∧ (w.alloc (.cells #[.string n, .slice A nc cc, .int .i64 s, .int .i64 h, .bool b] 79)).cell? ⟨w.heap.size, 3, none⟩ = some (.int .i64 h) ∧ (w.alloc (.cells #[.string n, .slice A nc cc, .int .i64 s, .int .i64 h, .bool b] 79)).cell? ⟨w.heap.size, 4, none⟩ = some (.bool b) ∧ (w.alloc (.cells #[.string n, .slice A nc cc, .int .i64 s, .int .i64 h, .bool b] 79)).cell? ⟨7, 0, none⟩ = some (.int .i64 0) ∧ (w.alloc (.cells #[.string n, .slice A nc cc, .int .i64 s, .int .i64 h, .bool b] 79)).cell? ⟨7, 1, none⟩ = some (.int .i64 9) ∧ (w.alloc (.cells #[.string n, .slice A nc cc, .int .i64 s, .int .i64 h, .bool b] 79)).cell? ⟨8, 0, none⟩ = some (.int .i64 (-3)) ∧ (w.alloc (.cells #[.string n, .slice A nc cc, .int .i64 s, .int .i64 h, .bool b] 79)).cell? ⟨8, 1, none⟩ = some (.int .i64 3) ∧ (w.alloc (.cells #[.string n, .slice A nc cc, .int .i64 s, .int .i64 h, .bool b] 79)).cell? ⟨9, 0, none⟩ = some (.int .i64 0) ∧ (w.alloc (.cells #[.string n, .slice A nc cc, .int .i64 s, .int .i64 h, .bool b] 79)).cell? ⟨9, 1, none⟩ = some (.int .i64 3) ∧ Kp w (w.alloc (.cells #[.string n, .slice A nc cc, .int .i64 s, .int .i64 h, .bool b] 79)) :=
    ⟨by simp [go_sem], by simp [go_sem], by simp [go_sem], by simp [go_sem], by simp [go_sem], ((Kp.refl w).alloc _).cell hs.cost.1, ((Kp.refl w).alloc _).cell hs.cost.2, ((Kp.refl w).alloc _).cell hs.shift.1, ((Kp.refl w).alloc _).cell hs.shift.2, ((Kp.refl w).alloc _).cell hs.height.1, ((Kp.refl w).alloc _).cell hs.height.2, (Kp.refl w).alloc _⟩
  have HA : Hid (0 < nc → ∃ g off, A = some ⟨g, off, none⟩ ∧ ∀ i x, l[i]? = some x → w.cell? ⟨g, off + i, none⟩ = some (.int .i64 x)) := Lib.hid (by
    obtain ⟨A', c', e, hr⟩ := hr
    simp only [Value.slice.injEq] at e
    obtain ⟨rfl, _, _⟩ := e
    rw [hl] at hr
    exact hr)
  have HN := Lib.hid hl
  clear hs hr hl
  by_cases hne : nc = nk
  · have en : numT nk ⟨n, l, s, h, b⟩ = (l.all (spB 0 9) && (spB (-3) 3 s && spB 0 3 h)) := by simp [numT, HN.out, hne]
    rw [en]
    have q1 : ((nc : Int) != (nk : Int)) = false := by simp; omega
    have q2 : (nc != nk) = false := by simpa using hne
    obtain ⟨R, hR⟩ : ∃ R, R = l.all (spB 0 9) := ⟨_, rfl⟩
    rw [← hR]
    have HR := Lib.hid hR
    clear en hR hne
    go_enter Tryd.func56, Tryd.ntmps56
    go_wp2_with fail
    generalize w.alloc (.cells #[.string n, .slice A nc cc, .int .i64 s, .int .i64 h, .bool b] 79) = W0 at *
    go_loopw [6, 15] (fun _ i wr => ∃ k : Nat, k ≤ nc ∧ i = .int .i64 k ∧ Hid ((l.drop k).all (spB 0 9) = R) ∧ Kp W0 wr) (fun _ i _ => nc - (intOf i).toNat)
    case atStart => exact ⟨0, by omega, rfl, Lib.hid HR.out.symm, Kp.refl _⟩
    case round =>
      obtain ⟨k, hk, rfl, hE, kr⟩ := hrel
      by_cases hlt : k < nc
      · have hlt' : (k : Int) < nc := by omega
        obtain ⟨g, off, rfl, hc⟩ := HA.out (by omega)
        obtain ⟨x, hx⟩ : ∃ x, l[k]? = some x := ⟨l[k]'(by have := HN.out; omega), List.getElem?_eq_getElem _⟩
        have a0 := kr.cell (s0.2.2.2.2.2.2.2.2.2.2.2.cell (hc k x hx))
        have HX := Lib.hid (dropA hx)
        have c0 := kr.cell s0.2.2.2.2.2.1
        have c1 := kr.cell s0.2.2.2.2.2.2.1
        clear hc hx
        cases hok : spB 0 9 x
        · have HE2 : Hid (R = false) := Lib.hid (by rw [← hE.out, HX.out]; exact allA_no hok)
          go_wp2_with fail
          refine (has_any _ _ _ _).mono ?_
          rintro e1 wa ⟨rfl, ka⟩
          go_wp2_with fail
          go_ret
          exact ⟨ret_bool (by rw [HE2.out]; rfl), s0.2.2.2.2.2.2.2.2.2.2.2.trans (kr.trans ka)⟩
        · have HE2 : Hid ((l.drop (k + 1)).all (spB 0 9) = R) := Lib.hid (by rw [← hE.out, HX.out]; exact (allA_go hok).symm)
          go_wp2_with fail
          refine (has_any _ _ _ _).mono ?_
          rintro e1 wa ⟨rfl, ka⟩
          go_wp2_with fail
          go_roundw
          case rel => exact ⟨k + 1, by omega, by go_num, HE2, kr.trans ka⟩
          case measure => simp [intOf]; omega
      · obtain rfl : k = nc := by omega
        have HR1 : Hid (R = true) := Lib.hid (by rw [← hE.out, List.drop_of_length_le (by rw [HN.out]; omega)]; rfl)
        have c0 := kr.cell s0.2.2.2.2.2.2.2.1
        have c1 := kr.cell s0.2.2.2.2.2.2.2.2.1
        have c2 := kr.cell s0.2.2.1
        cases h1 : spB (-3) 3 s
        · go_wp2_with fail
          refine (has_any _ _ _ _).mono ?_
          rintro e1 wa ⟨rfl, ka⟩
          go_wp2_with fail
          go_ret
          exact ⟨ret_bool (by rw [HR1.out, h1]; rfl), s0.2.2.2.2.2.2.2.2.2.2.2.trans (kr.trans ka)⟩
        · go_wp2_with fail
          refine (has_any _ _ _ _).mono ?_
          rintro e1 wa ⟨rfl, ka⟩
          have Ka : Kp W0 wa := kr.trans ka
          have d0 := Ka.cell s0.2.2.2.2.2.2.2.2.2.1
          have d1 := Ka.cell s0.2.2.2.2.2.2.2.2.2.2.1
          have d2 := Ka.cell s0.2.2.2.1
          go_wp2_with fail
          refine (has_any _ _ _ _).mono ?_
          rintro e2 wb ⟨rfl, kb⟩
          go_wp2_with fail
          go_ret
          exact ⟨ret_bool (by rw [HR1.out, h1]; rfl), s0.2.2.2.2.2.2.2.2.2.2.2.trans (Ka.trans kb)⟩
  · have en : numT nk ⟨n, l, s, h, b⟩ = false := by simp [numT, HN.out, hne]
    rw [en]
    have q1 : ((nc : Int) != (nk : Int)) = true := by simp; omega
    have q2 : (nc != nk) = true := by simpa using hne
    have KE := Lib.hid s0.2.2.2.2.2.2.2.2.2.2.2
    clear en hne s0
    go_enter Tryd.func56, Tryd.ntmps56
    go_wp2_with fail
    go_ret
    exact ⟨rfl, KE.out⟩

end Go.Proofs.YtkkcnofplddbmaaDoor
