/-
  Texts of this seat in one module: Ints, SpB, DiM, SpanB, ListI.
-/
import Derived.Deep.QuietTactic
import Derived.BigQuiet
import Derived.Deep.RegionHeld3
import Derived.Test.YtbohefollbmhkaaGreatDoorQa

/-
  Slices of integers as lists: copying one, comparing two that hold the same list, marking one that the call owns.
-/
namespace Go.Proofs.YtbohefollbmhkaaGreatDoor
open Go.RowKit

/-- The slice v reads as the list l of integers. -/
def RdI (w : World) (v : Value) (l : List Int) : Prop :=
  ∃ A c, v = .slice A l.length c ∧ (0 < l.length → ∃ g off, A = some ⟨g, off, none⟩ ∧ ∀ i x, l[i]? = some x → w.cell? ⟨g, off + i, none⟩ = some (.int .i64 x))
theorem RdI.keep {w w' : World} {v : Value} {l : List Int} (h : RdI w v l) (hk : Kp w w') : RdI w' v l := by
  obtain ⟨A, c, rfl, h⟩ := h
  refine ⟨A, c, rfl, fun h0 => ?_⟩
  obtain ⟨g, off, rfl, hc⟩ := h h0
  exact ⟨g, off, rfl, fun i x hx => hk.cell (hc i x hx)⟩
def cellsI (l : List Int) : List Value := l.map fun x => .int .i64 x
def OwnI (w : World) (base : Nat) (v : Value) (l : List Int) : Prop := w.ownsRow base 3 1 v l.length (cellsI l)
theorem OwnI.rd {w : World} {base : Nat} {v : Value} {l : List Int} (h : OwnI w base v l) : RdI w v l := by
  rcases h.2 with ⟨rfl, hn⟩ | ⟨g, cap, cur, rfl, hb, hg, hc, hm, hs, ht⟩
  · exact ⟨none, 0, by rw [hn], fun h0 => by omega⟩
  · refine ⟨_, _, rfl, fun _ => ⟨g, 0, rfl, fun i x hx => ?_⟩⟩
    have hi : i < l.length := (List.getElem?_eq_some_iff.1 hx).1
    rw [Nat.zero_add]
    exact (World.ownsRow.cellAt h i (by omega)).trans (by simp [cellsI, hx])
theorem OwnI.keep {w w' : World} {base : Nat} {v : Value} {l : List Int} (h : OwnI w base v l) (hk : Kp w w') : OwnI w' base v l := ownsRow_keep h hk

theorem infoInt : (Tryz.prog.info? 3).map (fun i => (i.zero, i.size, i.bytes)) = some (some (.int .i64 0), 1, 8) := by kernel_rfl
theorem mkInts (n : Nat) (hn : n ≤ 1048576) (w : World) :
    (Instr.makeSlice 43 (.int .i64 (n : Int)) (.int .i64 (n : Int))).run Tryz.prog w = .ok (.slice (some ⟨w.heap.size, 0, none⟩) n n) (w.alloc (.cells (madeCells #[.int .i64 0] n) 3)) := by
  obtain ⟨i, hi, hz, hs, hb⟩ := info_parts infoInt
  have hr := run_make (P := Tryz.prog) w 43 3 i (.int .i64 0) Tryz.underlying43 hi hz .i64 .i64 (n : Int) (n : Int) (by omega) (Int.le_refl _) (by rw [hb]; omega) (by omega)
  rw [hs, Int.toNat_natCast, Nat.mul_one] at hr
  exact hr

def isI64 (x : Int) : Prop := -9223372036854775808 ≤ x ∧ x ≤ 9223372036854775807

theorem OwnI.far {w : World} {base : Nat} {v : Value} {l : List Int} (h : OwnI w base v l) {g j : Nat} (hne : v.ownBlock ≠ some g) (u : Value) : OwnI (w.setCell ⟨g, j, none⟩ u) base v l :=
  World.ownsRow.kept h (grown_set w g j u) (.inr hne)
theorem OwnI.base {w : World} {base b : Nat} {v : Value} {l : List Int} (h : OwnI w base v l) (hb : b ≤ base) : OwnI w b v l := by
  refine ⟨h.1, ?_⟩
  rcases h.2 with h | ⟨g, cap, cur, h1, h2, h3⟩
  · exact .inl h
  · exact .inr ⟨g, cap, cur, h1, by omega, h3⟩
theorem OwnI.not {w : World} {base : Nat} {v : Value} {l : List Int} (h : OwnI w base v l) {g : Nat} (hg : g < base) : v.ownBlock ≠ some g := fun e => by
  have := (World.ownsRow.lt h g e).1
  omega
theorem OwnI.slice {w : World} {base : Nat} {v : Value} {l : List Int} (h : OwnI w base v l) : ∃ A c, v = .slice A l.length c := by
  obtain ⟨A, c, rfl, _⟩ := h.rd
  exact ⟨A, c, rfl⟩

end Go.Proofs.YtbohefollbmhkaaGreatDoor

/-
  The reference's tests of numbers within a range, one and all of a list.
-/
namespace Go.Proofs.YtbohefollbmhkaaGreatDoor
open Go.RowKit

theorem drop_step {α : Type} {l : List α} {k : Nat} {x : α} (h : l[k]? = some x) : l.drop k = x :: l.drop (k + 1) := by
  obtain ⟨hk, rfl⟩ := List.getElem?_eq_some_iff.1 h
  exact List.drop_eq_getElem_cons hk
theorem all_no {f : Int → Bool} {x : Int} {l : List Int} (h : f x = false) : (x :: l).all f = false := by simp [h]
theorem all_go {f : Int → Bool} {x : Int} {l : List Int} (h : f x = true) : (x :: l).all f = l.all f := by simp [h]
theorem l1All_any (v : Value) (l : List Int) (lo hi : Int) (w : World) (h : RdI w v l) (hl : l.length ≤ 1048576) :
    Calls Tryz.prog 46 #[v, .int .i64 lo, .int .i64 hi] w fun e w' => e = .returned (.bool (l.all fun n => decide (lo ≤ n) && decide (n ≤ hi))) ∧ w = w' := by
  obtain ⟨A, cp, rfl, h⟩ := h
  have HA := Lib.hid h
  obtain ⟨f, hf⟩ : ∃ f : Int → Bool, f = fun n => decide (lo ≤ n) && decide (n ≤ hi) := ⟨_, rfl⟩
  have CI : ∀ n w, Calls Tryz.prog 26 #[.int .i64 n, .int .i64 lo, .int .i64 hi] w fun e w' => e = .returned (.bool (f n)) ∧ w = w' := fun n w => by rw [hf]; exact l1In_gen n lo hi w
  have HC := Lib.hid CI
  rw [← hf]
  obtain ⟨R, hR⟩ : ∃ R, R = l.all f := ⟨_, rfl⟩
  rw [← hR]
  have HR := Lib.hid hR
  clear h hR CI hf
  generalize hn : l.length = n at *
  have HN := Lib.hid hn
  clear hn
  go_enter Tryz.func46, Tryz.ntmps46
  go_wp2_with fail
  go_loop [8, 11] (fun _ i => ∃ k : Nat, k ≤ n ∧ i = .int .i64 k ∧ Hid ((l.drop k).all f = R)) (fun _ i => n - (intOf i).toNat)
  case atStart => exact ⟨0, by omega, rfl, Lib.hid HR.out.symm⟩
  case round =>
    obtain ⟨k, hk, rfl, hE⟩ := hrel
    by_cases hlt : k < n
    · obtain ⟨g, off, rfl, hc⟩ := HA.out (by omega)
      obtain ⟨x, hx⟩ : ∃ x, l[k]? = some x := ⟨l[k]'(by have := HN.out; omega), List.getElem?_eq_getElem _⟩
      have a0 := hc k x hx
      have HX := Lib.hid (drop_step hx)
      clear hc hx
      have hlt' : (k : Int) < n := by omega
      cases hok : f x
      · go_wp2_with fail
        refine (HC.out _ _).mono ?_
        rintro e1 wy ⟨rfl, rfl⟩
        go_wp2_with fail
        go_ret
        have e : R = false := by rw [← hE.out, HX.out]; exact all_no hok
        exact ⟨ret_bool e.symm, rfl⟩
      · have HE2 : Hid ((l.drop (k + 1)).all f = R) := Lib.hid (by rw [← hE.out, HX.out]; exact (all_go hok).symm)
        go_wp2_with fail
        refine (HC.out _ _).mono ?_
        rintro e1 wy ⟨rfl, rfl⟩
        go_wp2_with fail
        go_round
        case rel => exact ⟨k + 1, by omega, by go_num, HE2⟩
        case measure => simp [intOf]; omega
    · obtain rfl : k = n := by omega
      go_wp2_with fail
      go_ret
      refine ⟨ret_bool ?_, rfl⟩
      rw [← hE.out, List.drop_of_length_le (by rw [HN.out]; omega)]
      rfl
theorem l1In_sp (n lo hi : Int) (w : World) :
    Calls Tryz.prog 26 #[.int .i64 n, .int .i64 lo, .int .i64 hi] w fun e w' => e = .returned (.bool (spB lo hi n)) ∧ w = w' := l1In_gen n lo hi w

theorem l1All_sp (v : Value) (l : List Int) (lo hi : Int) (w : World) (h : RdI w v l) (hl : l.length ≤ 1048576) :
    Calls Tryz.prog 46 #[v, .int .i64 lo, .int .i64 hi] w fun e w' => e = .returned (.bool (l.all (spB lo hi))) ∧ w = w' := l1All_any v l lo hi w h hl
theorem upto_more {f : Nat → Bool} {k : Nat} (h : f k = true) (hn : ∀ j, j < k → f j = true) : ∀ j, j < k + 1 → f j = true := fun j hj => by
  rcases Nat.lt_or_ge j k with h1 | h1
  · exact hn j h1
  · obtain rfl : j = k := by omega
    exact h

end Go.Proofs.YtbohefollbmhkaaGreatDoor

/-
  The plain mix of a list of numbers: its two numbers, their bounds, the residues that the languages of both sides compute.
-/
namespace Go.Proofs.YtbohefollbmhkaaGreatDoor
open Go.RowKit

def mA (a b x : Int) : Int := (16807 * a + x % 2147483647 + b) % 2147483647
def mB (a b x : Int) : Int := (39373 * b + x % 2147483629 + a) % 2147483629
def mixP (a b : Int) : List Int → Int × Int
  | [] => (a, b)
  | x :: l => mixP (mA a b x) (mB (mA a b x) b x) l
def mixL (l : List Int) : Int × Int := mixP 7 ((l.length : Int) + 1) (l ++ [1, 1, 1])
abbrev mx (a b : Int) : Value := .agg #[.int .i64 a, .int .i64 b]
def hashN (M : Int × Int) : Int := M.1 * 2147483648 + M.2
/-- The two numbers lie where they may be multiplied. -/
def MixBd (a b : Int) : Prop := 0 ≤ a ∧ a ≤ 2147483647 ∧ 0 ≤ b ∧ b ≤ 2147483647

theorem mA_bd (a b x : Int) : 0 ≤ mA a b x ∧ mA a b x ≤ 2147483646 := by
  unfold mA
  have h1 := Int.emod_nonneg (16807 * a + x % 2147483647 + b) (show (2147483647 : Int) ≠ 0 by omega)
  have h2 := Int.emod_lt_of_pos (16807 * a + x % 2147483647 + b) (show (0 : Int) < 2147483647 by omega)
  omega
theorem mB_bd (a b x : Int) : 0 ≤ mB a b x ∧ mB a b x ≤ 2147483628 := by
  unfold mB
  have h1 := Int.emod_nonneg (39373 * b + x % 2147483629 + a) (show (2147483629 : Int) ≠ 0 by omega)
  have h2 := Int.emod_lt_of_pos (39373 * b + x % 2147483629 + a) (show (0 : Int) < 2147483629 by omega)
  omega
theorem MixBd.step (a b x : Int) : MixBd (mA a b x) (mB (mA a b x) b x) := by
  have h1 := mA_bd a b x
  have h2 := mB_bd (mA a b x) b x
  exact ⟨h1.1, by omega, h2.1, by omega⟩
theorem MixBd.start {n : Nat} (h : n ≤ 1048576) : MixBd 7 ((n : Int) + 1) := ⟨by omega, by omega, by omega, by omega⟩

theorem mixP_drop {l t : List Int} {k : Nat} {x a b : Int} (h : l[k]? = some x) : mixP a b (l.drop k ++ t) = mixP (mA a b x) (mB (mA a b x) b x) (l.drop (k + 1) ++ t) := by
  rw [drop_step h]
  rfl
theorem mixP_cons (a b x : Int) (l : List Int) : mixP a b (x :: l) = mixP (mA a b x) (mB (mA a b x) b x) l := rfl
theorem mixP_bd : ∀ (l : List Int) (a b : Int), l ≠ [] → 0 ≤ (mixP a b l).1 ∧ (mixP a b l).1 ≤ 2147483646 ∧ 0 ≤ (mixP a b l).2 ∧ (mixP a b l).2 ≤ 2147483628
  | [], _, _, h => absurd rfl h
  | [x], a, b, _ => by
    have h1 := mA_bd a b x
    have h2 := mB_bd (mA a b x) b x
    exact ⟨h1.1, h1.2, h2.1, h2.2⟩
  | x :: y :: l, a, b, _ => mixP_bd (y :: l) _ _ (by simp)
theorem mixL_bd (l : List Int) : 0 ≤ (mixL l).1 ∧ (mixL l).1 ≤ 2147483646 ∧ 0 ≤ (mixL l).2 ∧ (mixL l).2 ≤ 2147483628 :=
  mixP_bd _ _ _ (by simp)

/-- The remainder of the language, made positive, is the residue. -/
theorem res_neg {n m : Int} (hm : 0 < m) (h : n.tmod m < 0) : n.tmod m + m = n % m := by
  have h1 := Int.mul_tdiv_add_tmod n m
  have h2 : -m < n.tmod m := Int.lt_tmod_of_pos n hm
  have h3 : n / m = n.tdiv m - 1 ∧ n % m = n.tmod m + m := by
    rw [Int.ediv_emod_unique (by omega)]
    refine ⟨?_, by omega, by omega⟩
    rw [Int.mul_sub]
    omega
  exact h3.2.symm
theorem res_pos {n m : Int} (hm : 0 < m) (h : 0 ≤ n.tmod m) : n.tmod m = n % m := by
  have h1 := Int.mul_tdiv_add_tmod n m
  have h2 : n.tmod m < m := Int.tmod_lt_of_pos n hm
  have h3 : n / m = n.tdiv m ∧ n % m = n.tmod m := by
    rw [Int.ediv_emod_unique (by omega)]
    exact ⟨by omega, by omega, by omega⟩
  exact h3.2.symm
theorem res_both {n m : Int} (hm : 0 < m) : (n.tmod m + m).tmod m = n % m := by
  have h2 : -m < n.tmod m := Int.lt_tmod_of_pos n hm
  rw [Int.tmod_eq_emod_of_nonneg (by omega), Int.add_emod_right]
  rcases Int.lt_or_le (n.tmod m) 0 with h | h
  · rw [← Int.add_emod_right, res_neg hm h, Int.emod_emod_of_dvd _ (Int.dvd_refl m)]
  · rw [res_pos hm h, Int.emod_emod_of_dvd _ (Int.dvd_refl m)]
theorem res_bd {n m : Int} (hm : 0 < m) : -m < n.tmod m ∧ n.tmod m < m := ⟨Int.lt_tmod_of_pos n hm, Int.tmod_lt_of_pos n hm⟩
theorem emod_bd {n m : Int} (hm : 0 < m) : 0 ≤ n % m ∧ n % m < m := ⟨Int.emod_nonneg n (by omega), Int.emod_lt_of_pos n hm⟩

end Go.Proofs.YtbohefollbmhkaaGreatDoor

/-
  A range of permitted numbers: whether a number lies in it, and a variable that holds one.
-/
namespace Go.Proofs.YtbohefollbmhkaaGreatDoor
open Go.RowKit

theorem has_any (lo hi n : Int) (w : World) :
    Calls Tryz.prog 23 #[.agg #[.int .i64 lo, .int .i64 hi], .int .i64 n] w fun e w' => e = .returned (.bool (spB lo hi n)) ∧ Kp w w' := by
  by_cases h1 : lo ≤ n
  · by_cases h2 : n ≤ hi
    · go_enter Tryz.func23, Tryz.ntmps23
      go_wp2
      go_ret
      exact ⟨ret_bool (by simp [spB, h1, h2]), (Kp.refl _).alloc _⟩
    · have hd : decide (n ≤ hi) = false := by simpa using h2
      go_enter Tryz.func23, Tryz.ntmps23
      go_wp2
      go_ret
      exact ⟨ret_bool (by simp [spB]; omega), (Kp.refl _).alloc _⟩
  · have hd : decide (lo ≤ n) = false := by simpa using h1
    go_enter Tryz.func23, Tryz.ntmps23
    go_wp2
    go_ret
    exact ⟨ret_bool (by simp [spB]; omega), (Kp.refl _).alloc _⟩

def SpanAt (w : World) (g : Nat) (lo hi : Int) : Prop := w.cell? ⟨g, 0, none⟩ = some (.int .i64 lo) ∧ w.cell? ⟨g, 1, none⟩ = some (.int .i64 hi)

end Go.Proofs.YtbohefollbmhkaaGreatDoor

/-
  New lists of numbers: none, one more; a call's answer that is a list and whether there is one.
-/
namespace Go.Proofs.YtbohefollbmhkaaGreatDoor
open Go.RowKit

/-- A new list of numbers and true, or none and false. -/
def ListPostI (ok : Bool) (l : List Int) (w : World) (e : Ending) (w' : World) : Prop :=
  ∃ v, e = .returned (.tuple #[v, .bool ok]) ∧ OwnI w' w.heap.size v (if ok = true then l else []) ∧ Kp w w'
theorem OwnI.nil (w : World) (base : Nat) : OwnI w base (.slice none 0 0) [] := World.ownsRow_nil w base _ 1
theorem ListPostI.no {l : List Int} {w w' : World} (hk : Kp w w') : ListPostI false l w (.returned (.tuple #[.slice none 0 0, .bool false])) w' := ⟨_, rfl, OwnI.nil _ _, hk⟩
theorem OwnI.snoc {w : World} {base : Nat} {v : Value} {l : List Int} {x : Int} (h : w.ownsRow base 3 1 v (l.length + 1) (cellsI l ++ [.int .i64 x])) : OwnI w base v (l ++ [x]) := by
  unfold OwnI cellsI
  rw [List.map_append, List.length_append]
  exact h
theorem one_cell (w : World) (x : Value) (t : TypeId) : ∀ j u, [x][j]? = some u → (w.alloc (.cells #[x] t)).cell? ((⟨w.heap.size, 0, none⟩ : Addr).add j) = some u := by
  intro j u hj
  match j, hj with
  | 0, hj => simp at hj; subst hj; simp [Addr.add]

end Go.Proofs.YtbohefollbmhkaaGreatDoor
