/-
  How often each result occurs among all rolls, as the program and as the reference count. Nothing that was there is changed.
-/
import Derived.Test.YtjpfmckoodalnaaDoorTbP
import Derived.Test.YtjpfmckoodalnaaDoorPutI
namespace Go.Proofs.YtjpfmckoodalnaaDoor
open Go.RowKit

def ind (f : Int → Int) (r s : Int) : Int := if f s = r then 1 else 0
theorem ind_bd (f : Int → Int) (r s : Int) : 0 ≤ ind f r s ∧ ind f r s ≤ 1 := by
  unfold ind
  split <;> omega
def cntR (f : Int → Int) (P : List (Int × Int)) (r : Int) : Int := (P.map fun p => p.2 * ind f r p.1).sum
def cntW (f : Int → Int) (P : List (Int × Int)) : List Int := (List.range 8).map fun r : Nat => cntR f P r
theorem cntW_len (f : Int → Int) (P : List (Int × Int)) : (cntW f P).length = 8 := by simp [cntW]
theorem cntW_at {f : Int → Int} {P : List (Int × Int)} {r : Nat} (h : r < 8) : (cntW f P)[r]? = some (cntR f P r) := by simp [cntW, h]
theorem cntW_nil (f : Int → Int) : cntW f [] = List.replicate 8 0 := rfl
theorem cntR_more {f : Int → Int} {P : List (Int × Int)} {q : Nat} {p : Int × Int} (h : P[q]? = some p) (r : Int) : cntR f (P.take (q + 1)) r = cntR f (P.take q) r + p.2 * ind f r p.1 := by
  unfold cntR
  rw [List.take_add_one, h]
  simp
theorem cntW_more {f : Int → Int} {P : List (Int × Int)} {q y : Nat} {p : Int × Int} (h : P[q]? = some p) (hy : f p.1 = y) : cntW f (P.take (q + 1)) = (cntW f (P.take q)).set y (cntR f (P.take q) y + p.2) := by
  apply List.ext_getElem?
  intro r
  by_cases hr : r < 8
  · rw [cntW_at hr, cntR_more h, List.getElem?_set]
    by_cases e : y = r
    · subst e
      rw [if_pos rfl, if_pos (by rw [cntW_len]; exact hr), ind, if_pos hy]
      simp
    · rw [if_neg e, cntW_at hr, ind, if_neg (by rw [hy]; omega)]
      simp
  · rw [List.getElem?_eq_none (by rw [cntW_len]; omega), List.getElem?_eq_none (by rw [List.length_set, cntW_len]; omega)]
theorem cntR_bd {f : Int → Int} (r : Int) : ∀ {P : List (Int × Int)}, (∀ p ∈ P, 0 ≤ p.2 ∧ p.2 ≤ 6) → 0 ≤ cntR f P r ∧ cntR f P r ≤ 6 * P.length
  | [], _ => by simp [cntR]
  | p :: P, h => by
    have ih := cntR_bd (f := f) r (P := P) fun p hp => h p (List.mem_cons_of_mem _ hp)
    have h1 := h p (List.mem_cons_self)
    have h2 := ind_bd f r p.1
    have h3 : 0 ≤ p.2 * ind f r p.1 := Int.mul_nonneg h1.1 h2.1
    have h4 : p.2 * ind f r p.1 ≤ p.2 * 1 := Int.mul_le_mul_of_nonneg_left h2.2 h1.1
    unfold cntR at ih ⊢
    simp only [List.map_cons, List.sum_cons, List.length_cons]
    omega
theorem cntR_tk {f : Int → Int} (r : Int) {P : List (Int × Int)} (h : ∀ p ∈ P, 0 ≤ p.2 ∧ p.2 ≤ 6) (hl : P.length ≤ 36) (q : Nat) : 0 ≤ cntR f (P.take q) r ∧ cntR f (P.take q) r ≤ 216 := by
  have h1 := cntR_bd (f := f) r (P := P.take q) fun p hp => h p (List.mem_of_mem_take hp)
  have h2 : (P.take q).length ≤ 36 := by rw [List.length_take]; omega
  omega

def wayI (d roll : Int) : Int := if d = 1 then 1 else 6 - max (roll - 7) (-(roll - 7))
def pI (D : Nat) : List (Int × Int) := (sumsL D).map fun s => (s, 1)
def pS (D : Nat) : List (Int × Int) := (List.range (5 * D + 1)).map fun i : Nat => ((D : Int) + i, wayI D ((D : Int) + i))
theorem pS_at {D q : Nat} (h : q < 5 * D + 1) : (pS D)[q]? = some ((D : Int) + q, wayI D ((D : Int) + q)) := by simp [pS, h]
theorem pS_len (D : Nat) : (pS D).length = 5 * D + 1 := by simp [pS]
theorem way_bd {D q : Nat} (h1 : 1 ≤ D) (h2 : D ≤ 2) (h : q < 5 * D + 1) : 0 ≤ wayI D ((D : Int) + q) ∧ wayI D ((D : Int) + q) ≤ 6 := by
  unfold wayI
  split
  · omega
  · omega
theorem pS_bd {D : Nat} (h1 : 1 ≤ D) (h2 : D ≤ 2) : ∀ p ∈ pS D, 0 ≤ p.2 ∧ p.2 ≤ 6 := by
  intro p hp
  simp only [pS, List.mem_map, List.mem_range] at hp
  obtain ⟨i, hi, rfl⟩ := hp
  exact way_bd h1 h2 hi
theorem pI_bd (D : Nat) : ∀ p ∈ pI D, 0 ≤ p.2 ∧ p.2 ≤ 6 := by
  intro p hp
  simp only [pI, List.mem_map] at hp
  obtain ⟨s, _, rfl⟩ := hp
  simp
theorem pI_len (D : Nat) : (pI D).length = (sumsL D).length := by simp [pI]
theorem cnt_eq (f : Int → Int) {D : Nat} (h1 : 1 ≤ D) (h2 : D ≤ 2) : cntW f (pI D) = cntW f (pS D) := by
  have key : ∀ r, cntR f (pI D) r = cntR f (pS D) r := by
    intro r
    match D, h1, h2 with
    | 1, _, _ =>
      have e : pI 1 = pS 1 := by decide
      rw [e]
    | 2, _, _ =>
      have e1 : pI 2 = [(2, 1), (3, 1), (4, 1), (5, 1), (6, 1), (7, 1), (3, 1), (4, 1), (5, 1), (6, 1), (7, 1), (8, 1), (4, 1), (5, 1), (6, 1), (7, 1), (8, 1), (9, 1), (5, 1), (6, 1), (7, 1), (8, 1), (9, 1), (10, 1), (6, 1), (7, 1), (8, 1), (9, 1), (10, 1), (11, 1), (7, 1), (8, 1), (9, 1), (10, 1), (11, 1), (12, 1)] := by decide
      have e2 : pS 2 = [(2, 1), (3, 2), (4, 3), (5, 4), (6, 5), (7, 6), (8, 5), (9, 4), (10, 3), (11, 2), (12, 1)] := by decide
      rw [e1, e2]
      simp only [cntR, List.map_cons, List.map_nil, List.sum_cons, List.sum_nil]
      omega
  unfold cntW
  apply List.map_congr_left
  intro r _
  exact key r
theorem sums_in {D : Nat} (h1 : 1 ≤ D) (h2 : D ≤ 2) : ∀ s ∈ sumsL D, (D : Int) ≤ s ∧ s ≤ 6 * D := by
  match D, h1, h2 with
  | 1, _, _ => decide
  | 2, _, _ => decide

theorem kAbs_any (n : Int) (w : World) (h : -100 ≤ n) (h' : n ≤ 100) : Calls Tryd.prog 48 #[.int .i64 n] w fun e w' => e = .returned (.int .i64 (max n (-n))) ∧ w = w' := by
  go_enter Tryd.func48, Tryd.ntmps48
  go_wp2_with fail
  refine (l1Most_any _ _ _).mono ?_
  rintro e w1 ⟨rfl, rfl⟩
  go_wp2_with fail
  go_ret
  exact ⟨rfl, rfl⟩
theorem kWays_any (d roll : Int) (w : World) (h1 : 1 ≤ d) (h2 : d ≤ 2) (h3 : 0 ≤ roll) (h4 : roll ≤ 20) : Calls Tryd.prog 44 #[.int .i64 d, .int .i64 roll] w fun e w' => e = .returned (.int .i64 (wayI d roll)) ∧ w = w' := by
  by_cases hd : d = 1
  · subst hd
    go_enter Tryd.func44, Tryd.ntmps44
    go_wp2_with fail
    go_ret
    exact ⟨rfl, rfl⟩
  · have e1 : (d == 1) = false := by simpa using hd
    go_enter Tryd.func44, Tryd.ntmps44
    go_wp2_with fail
    refine (kAbs_any _ _ (by omega) (by omega)).mono ?_
    rintro e w1 ⟨rfl, rfl⟩
    go_wp2_with fail
    go_ret
    exact ⟨ret_int (by unfold wayI; rw [if_neg hd]), rfl⟩

/-- A result of a valid table, as both sides find it. -/
theorem res_both {w : World} {c r : Value} {d : Int} {co : List (Int × Int)} {rs : List (List Int)} {x : Int} (h : CtAt w c r co rs) (hok : tabOk co d rs = true) (hx : inCol co.length x = true) (q : Int) (h1 : d ≤ q) (h2 : q ≤ 6 * d) :
    ∃ y : Nat, y < 8 ∧ resI d rs q x = y ∧ (∀ w', Kp w w' → Calls Tryd.prog 30 #[cv c d r, .int .i64 q, .int .i64 x] w' fun e w'' => e = .returned (.int .i64 (y : Int)) ∧ Kp w' w'') ∧
      ∀ w', Kp w w' → Calls Tryd.prog 31 #[cv c d r, .int .i64 q, .int .i64 x] w' fun e w'' => e = .returned (.int .i64 (y : Int)) ∧ Kp w' w'' := by
  have hd := tabOk_d hok
  obtain ⟨hx1, hx2⟩ := inCol_true hx
  obtain ⟨z, rfl⟩ : ∃ z : Nat, x = z := ⟨x.toNat, by omega⟩
  obtain ⟨j, hqj⟩ : ∃ j : Nat, q = d + j := ⟨(q - d).toNat, by omega⟩
  have hnn := (tabOk_parts hok).2.2.1
  obtain ⟨l, hj⟩ : ∃ l, rs[j]? = some l := ⟨rs[j]'(by omega), List.getElem?_eq_getElem _⟩
  obtain ⟨hlm, hlx⟩ := tabOk_row hok hj
  obtain ⟨v, hy⟩ : ∃ v, l[z]? = some v := ⟨l[z]'(by omega), List.getElem?_eq_getElem _⟩
  have hb := hlx z v hy
  obtain ⟨y, rfl⟩ : ∃ y : Nat, v = y := ⟨v.toNat, by omega⟩
  exact ⟨y, by omega, by rw [hqj]; exact resI_at hj hy, fun w' k => resultOf_any _ _ d co rs q j z l y w' (h.keep k) hqj hd.1 hd.2 hj hy, fun w' k => kResult_any _ _ d co rs q j z l y w' (h.keep k) hqj hj hy⟩

theorem mkCnt (w : World) : (Instr.makeSlice 41 (.int .i64 8) (.int .i64 8)).run Tryd.prog w = .ok (.slice (some ⟨w.heap.size, 0, none⟩) 8 8) (w.alloc (.cells (madeCells #[.int .i64 0] 8) 3)) := mkInts 8 (by omega) w

end Go.Proofs.YtjpfmckoodalnaaDoor
