/-
  slices.IndexFunc, ContainsFunc and DeleteFunc on integers, for a function value that answers a plain predicate in all worlds behind a given one. Nothing that was there is changed but the row that DeleteFunc is handed.
-/
import Derived.Test.YtfohhofpfmbheaaGreatDoorSgT
import Derived.Lib.SliceRun
import Derived.Test.YtfohhofpfmbheaaGreatDoorQg
namespace Go.Proofs.YtfohhofpfmbheaaGreatDoor
open Go.RowKit

theorem fstN_spec {α : Type} (p : α → Bool) : ∀ (l : List α) (n : Int), (fstN p l n = -1 ∧ ∀ x ∈ l, p x = false) ∨ ∃ (k : Nat) (x : α), l[k]? = some x ∧ p x = true ∧ fstN p l n = n + k ∧ ∀ y ∈ l.take k, p y = false
  | [], n => .inl ⟨rfl, fun x h => by cases h⟩
  | y :: ys, n => by
    cases hy : p y with
    | true => exact .inr ⟨0, y, rfl, hy, by simp [fstN, hy], fun z hz => by simp at hz⟩
    | false =>
      rcases fstN_spec p ys (n + 1) with ⟨h1, h2⟩ | ⟨k, x, h1, h2, h3, h4⟩
      · exact .inl ⟨by simp [fstN, hy, h1], fun x hx => by
          rcases List.mem_cons.1 hx with rfl | h
          · exact hy
          · exact h2 x h⟩
      · refine .inr ⟨k + 1, x, by simpa using h1, h2, ?_, fun z hz => ?_⟩
        · rw [fstN, hy]
          simp only [Bool.false_eq_true, if_false]
          rw [h3]
          omega
        · rw [List.take_succ_cons, List.mem_cons] at hz
          rcases hz with rfl | h
          · exact hy
          · exact h4 z h
theorem filter_none {α : Type} {p : α → Bool} {l : List α} (h : ∀ x ∈ l, p x = false) : (l.filter fun x => !p x) = l := by
  rw [List.filter_eq_self]
  intro x hx
  rw [h x hx]
  rfl
/-- A row m that holds what is kept of the first j of l, i of them, and l's rest from j on. -/
structure KeptI (p : Int → Bool) (l m : List Int) (i j : Nat) : Prop where
  len : m.length = l.length
  lt : i < j
  le : j ≤ l.length
  low : m.take i = (l.take j).filter fun x => !p x
  high : m.drop j = l.drop j
theorem KeptI.at {p : Int → Bool} {l m : List Int} {i j : Nat} (h : KeptI p l m i j) : m[j]? = l[j]? := by
  have := congrArg (fun z => z[0]?) h.high
  simpa [List.getElem?_drop] using this
theorem KeptI.start {p : Int → Bool} {l : List Int} {k : Nat} {x : Int} (hx : l[k]? = some x) (hp : p x = true) (ha : ∀ y ∈ l.take k, p y = false) : KeptI p l l k (k + 1) := by
  have hk := (List.getElem?_eq_some_iff.1 hx).1
  refine ⟨rfl, by omega, by omega, ?_, rfl⟩
  rw [List.take_add_one, hx, List.filter_append, filter_none ha]
  simp [hp]
theorem KeptI.skip {p : Int → Bool} {l m : List Int} {i j : Nat} {x : Int} (h : KeptI p l m i j) (hx : l[j]? = some x) (hp : p x = true) : KeptI p l m i (j + 1) := by
  have hk := (List.getElem?_eq_some_iff.1 hx).1
  have hl := h.lt
  refine ⟨h.len, by omega, by omega, ?_, ?_⟩
  · rw [List.take_add_one, hx, List.filter_append, ← h.low]
    simp [hp]
  · rw [← List.drop_drop, h.high, List.drop_drop]
theorem KeptI.keep {p : Int → Bool} {l m : List Int} {i j : Nat} {x : Int} (h : KeptI p l m i j) (hx : l[j]? = some x) (hp : p x = false) : KeptI p l (m.set i x) (i + 1) (j + 1) := by
  have hk := (List.getElem?_eq_some_iff.1 hx).1
  have hl := h.lt
  have hm := h.len
  refine ⟨by simpa using h.len, by omega, by omega, ?_, ?_⟩
  · rw [List.take_add_one, List.getElem?_set_self (by omega), List.take_set_of_le (Nat.le_refl _), h.low, List.take_add_one, hx, List.filter_append]
    simp [hp]
  · rw [List.drop_set_of_lt (by omega), ← List.drop_drop, h.high, List.drop_drop]
theorem OwnI.cut {w : World} {base n g cap : Nat} {m : List Int} (h : OwnI w base (.slice (some ⟨g, 0, none⟩) n cap) m) (hn : m.length = n) {i : Nat} (hi : i ≤ n) : OwnI w base (.slice (some ⟨g, 0, none⟩) i cap) (m.take i) := by
  subst hn
  obtain ⟨hl, h2⟩ := (show w.ownsRow base 3 1 (.slice (some ⟨g, 0, none⟩) m.length cap) m.length (cellsI m) from h)
  rcases h2 with ⟨e, _⟩ | ⟨g', cap', cur, e, h3, h4, h5, h6, h7, h8⟩
  · cases e
  · cases e
    have hlen : (m.take i).length = i := by rw [List.length_take]; omega
    unfold OwnI
    rw [hlen]
    refine ⟨by simp [cellsI]; omega, .inr ⟨g, cap, cur, rfl, h3, h4, by omega, h6, h7, ?_⟩⟩
    have := congrArg (List.take i) h8
    rw [List.take_take, Nat.mul_one] at this
    rw [Nat.mul_one]
    rw [show min i m.length = i by omega] at this
    rw [this]
    simp [cellsI, List.map_take]
theorem OwnI.zeros {base n g cap : Nat} : ∀ (q o : Nat) (w : World) (m : List Int), OwnI w base (.slice (some ⟨g, 0, none⟩) n cap) m → m.length = n → o + q ≤ n →
    ∃ m' : List Int, m'.length = n ∧ m'.take o = m.take o ∧ OwnI (w.setCells g o (List.replicate q (.int .i64 0))) base (.slice (some ⟨g, 0, none⟩) n cap) m'
  | 0, o, w, m, h, hn, _ => ⟨m, hn, rfl, h⟩
  | q + 1, o, _, m, h, hn, hq => by
    have h1 := (h.put hn (k := o) (by omega) 0).2.2
    obtain ⟨m', e1, e2, e3⟩ := OwnI.zeros q (o + 1) _ _ h1 (by simpa using hn) (by omega)
    refine ⟨m', e1, ?_, e3⟩
    have := congrArg (List.take o) e2
    rw [List.take_take, List.take_take, show min o (o + 1) = o by omega, List.take_set_of_le (Nat.le_refl _)] at this
    exact this
theorem Kp.setCells {W : World} {g : Nat} (hg : W.heap.size ≤ g) : ∀ (vs : List Value) (o : Nat) (w : World), Kp W w → Kp W (w.setCells g o vs)
  | [], _, _, h => h
  | v :: vs, o, _, h => Kp.setCells hg vs (o + 1) _ (h.setCell hg v)

theorem dropN {α : Type} {l : List α} {k : Nat} {x : α} (h : l[k]? = some x) : l.drop k = x :: l.drop (k + 1) := by
  obtain ⟨h1, rfl⟩ := List.getElem?_eq_some_iff.1 h
  exact List.drop_eq_getElem_cons h1

set_option maxRecDepth 100000 in
set_option maxHeartbeats 4000000 in
theorem indexFunc_B (lb : Array Value) (p : Int → Bool) (l : List Int) (v : Value) (W1 w : World) (HP : ∀ x ∈ l, ∀ w, Kp W1 w → Calls Tryz.prog 115 (#[.int .i64 x] ++ lb) w fun e w' => e = .returned (.bool (p x)) ∧ Kp w w')
    (hk : Kp W1 w) (hr : RdI w v l) (hl : l.length ≤ 1048576) :
    Calls Tryz.prog 97 #[v, .func (.func 115) #[] lb] w fun e w' => e = .returned (.int .i64 (fstN p l 0)) ∧ Kp w w' := by
  obtain ⟨A, cp, rfl, h⟩ := hr
  have HA := Lib.hid h
  have HPP := Lib.hid HP
  obtain ⟨R, hR⟩ : ∃ R, R = fstN p l 0 := ⟨_, rfl⟩
  rw [← hR]
  have HR := Lib.hid hR
  clear h hR HP
  generalize hn : l.length = n at *
  have HN := Lib.hid hn
  clear hn
  go_enter Tryz.func97, Tryz.ntmps97
  go_wp2_with fail
  go_loopw [5, 8] (fun _ i wr => ∃ k : Nat, k ≤ n ∧ i = .int .i64 k ∧ Hid (fstN p (l.drop k) (k : Int) = R) ∧ Kp w wr) (fun _ i _ => n - (intOf i).toNat)
  case atStart => exact ⟨0, by omega, rfl, Lib.hid (by rw [List.drop_zero]; exact HR.out.symm), Kp.refl w⟩
  case round =>
    obtain ⟨k, hkn, rfl, hE, kr⟩ := hrel
    by_cases hlt : k < n
    · obtain ⟨g', off, rfl, hc⟩ := HA.out (by omega)
      obtain ⟨x, hx⟩ : ∃ x, l[k]? = some x := ⟨l[k]'(by have := HN.out; omega), List.getElem?_eq_getElem _⟩
      have a0 := kr.cell (hc k x hx)
      have HX := Lib.hid (dropN hx)
      have HC := Lib.hid (HPP.out x (List.mem_of_getElem? hx))
      clear hc hx
      have hlt' : (k : Int) < n := by omega
      cases hok : p x
      · have HE2 : Hid (fstN p (l.drop (k + 1)) ((k + 1 : Nat) : Int) = R) := Lib.hid (by
          rw [← hE.out, HX.out, fstN, hok]
          simp only [Bool.false_eq_true, if_false]
          congr 1)
        rw [hok] at HC
        clear hok
        go_wp2_with (go_at_call 115; refine (HC.out _ (hk.trans kr)).mono ?_; rintro e2 w2 ⟨rfl, k2⟩)
        go_roundw
        case rel => exact ⟨k + 1, by omega, by go_num, HE2, kr.trans k2⟩
        case measure => simp [intOf]; omega
      · have HE2 : Hid ((k : Int) = R) := Lib.hid (by
          rw [← hE.out, HX.out, fstN, hok]
          simp)
        rw [hok] at HC
        clear hok
        go_wp2_with (go_at_call 115; refine (HC.out _ (hk.trans kr)).mono ?_; rintro e2 w2 ⟨rfl, k2⟩)
        go_ret
        exact ⟨ret_int HE2.out, kr.trans k2⟩
    · obtain rfl : k = n := by omega
      have HE2 : Hid ((-1 : Int) = R) := Lib.hid (by
        rw [← hE.out, List.drop_eq_nil_of_le (by have := HN.out; omega)]
        rfl)
      go_wp2_with fail
      go_ret
      exact ⟨ret_int HE2.out, kr⟩

set_option maxRecDepth 100000 in
set_option maxHeartbeats 4000000 in
theorem indexFunc_C (lb : Array Value) (p : Int → Bool) (l : List Int) (v : Value) (W1 w : World) (HP : ∀ x ∈ l, ∀ w, Kp W1 w → Calls Tryz.prog 118 (#[.int .i64 x] ++ lb) w fun e w' => e = .returned (.bool (p x)) ∧ Kp w w')
    (hk : Kp W1 w) (hr : RdI w v l) (hl : l.length ≤ 1048576) :
    Calls Tryz.prog 97 #[v, .func (.func 118) #[] lb] w fun e w' => e = .returned (.int .i64 (fstN p l 0)) ∧ Kp w w' := by
  obtain ⟨A, cp, rfl, h⟩ := hr
  have HA := Lib.hid h
  have HPP := Lib.hid HP
  obtain ⟨R, hR⟩ : ∃ R, R = fstN p l 0 := ⟨_, rfl⟩
  rw [← hR]
  have HR := Lib.hid hR
  clear h hR HP
  generalize hn : l.length = n at *
  have HN := Lib.hid hn
  clear hn
  go_enter Tryz.func97, Tryz.ntmps97
  go_wp2_with fail
  go_loopw [5, 8] (fun _ i wr => ∃ k : Nat, k ≤ n ∧ i = .int .i64 k ∧ Hid (fstN p (l.drop k) (k : Int) = R) ∧ Kp w wr) (fun _ i _ => n - (intOf i).toNat)
  case atStart => exact ⟨0, by omega, rfl, Lib.hid (by rw [List.drop_zero]; exact HR.out.symm), Kp.refl w⟩
  case round =>
    obtain ⟨k, hkn, rfl, hE, kr⟩ := hrel
    by_cases hlt : k < n
    · obtain ⟨g', off, rfl, hc⟩ := HA.out (by omega)
      obtain ⟨x, hx⟩ : ∃ x, l[k]? = some x := ⟨l[k]'(by have := HN.out; omega), List.getElem?_eq_getElem _⟩
      have a0 := kr.cell (hc k x hx)
      have HX := Lib.hid (dropN hx)
      have HC := Lib.hid (HPP.out x (List.mem_of_getElem? hx))
      clear hc hx
      have hlt' : (k : Int) < n := by omega
      cases hok : p x
      · have HE2 : Hid (fstN p (l.drop (k + 1)) ((k + 1 : Nat) : Int) = R) := Lib.hid (by
          rw [← hE.out, HX.out, fstN, hok]
          simp only [Bool.false_eq_true, if_false]
          congr 1)
        rw [hok] at HC
        clear hok
        go_wp2_with (go_at_call 118; refine (HC.out _ (hk.trans kr)).mono ?_; rintro e2 w2 ⟨rfl, k2⟩)
        go_roundw
        case rel => exact ⟨k + 1, by omega, by go_num, HE2, kr.trans k2⟩
        case measure => simp [intOf]; omega
      · have HE2 : Hid ((k : Int) = R) := Lib.hid (by
          rw [← hE.out, HX.out, fstN, hok]
          simp)
        rw [hok] at HC
        clear hok
        go_wp2_with (go_at_call 118; refine (HC.out _ (hk.trans kr)).mono ?_; rintro e2 w2 ⟨rfl, k2⟩)
        go_ret
        exact ⟨ret_int HE2.out, kr.trans k2⟩
    · obtain rfl : k = n := by omega
      have HE2 : Hid ((-1 : Int) = R) := Lib.hid (by
        rw [← hE.out, List.drop_eq_nil_of_le (by have := HN.out; omega)]
        rfl)
      go_wp2_with fail
      go_ret
      exact ⟨ret_int HE2.out, kr⟩

set_option maxRecDepth 100000 in
set_option maxHeartbeats 4000000 in
theorem indexFunc_S (lb : Array Value) (p : Int → Bool) (l : List Int) (v : Value) (W1 w : World) (HP : ∀ x ∈ l, ∀ w, Kp W1 w → Calls Tryz.prog 93 (#[.int .i64 x] ++ lb) w fun e w' => e = .returned (.bool (p x)) ∧ Kp w w')
    (hk : Kp W1 w) (hr : RdI w v l) (hl : l.length ≤ 1048576) :
    Calls Tryz.prog 97 #[v, .func (.func 93) #[] lb] w fun e w' => e = .returned (.int .i64 (fstN p l 0)) ∧ Kp w w' := by
  obtain ⟨A, cp, rfl, h⟩ := hr
  have HA := Lib.hid h
  have HPP := Lib.hid HP
  obtain ⟨R, hR⟩ : ∃ R, R = fstN p l 0 := ⟨_, rfl⟩
  rw [← hR]
  have HR := Lib.hid hR
  clear h hR HP
  generalize hn : l.length = n at *
  have HN := Lib.hid hn
  clear hn
  go_enter Tryz.func97, Tryz.ntmps97
  go_wp2_with fail
  go_loopw [5, 8] (fun _ i wr => ∃ k : Nat, k ≤ n ∧ i = .int .i64 k ∧ Hid (fstN p (l.drop k) (k : Int) = R) ∧ Kp w wr) (fun _ i _ => n - (intOf i).toNat)
  case atStart => exact ⟨0, by omega, rfl, Lib.hid (by rw [List.drop_zero]; exact HR.out.symm), Kp.refl w⟩
  case round =>
    obtain ⟨k, hkn, rfl, hE, kr⟩ := hrel
    by_cases hlt : k < n
    · obtain ⟨g', off, rfl, hc⟩ := HA.out (by omega)
      obtain ⟨x, hx⟩ : ∃ x, l[k]? = some x := ⟨l[k]'(by have := HN.out; omega), List.getElem?_eq_getElem _⟩
      have a0 := kr.cell (hc k x hx)
      have HX := Lib.hid (dropN hx)
      have HC := Lib.hid (HPP.out x (List.mem_of_getElem? hx))
      clear hc hx
      have hlt' : (k : Int) < n := by omega
      cases hok : p x
      · have HE2 : Hid (fstN p (l.drop (k + 1)) ((k + 1 : Nat) : Int) = R) := Lib.hid (by
          rw [← hE.out, HX.out, fstN, hok]
          simp only [Bool.false_eq_true, if_false]
          congr 1)
        rw [hok] at HC
        clear hok
        go_wp2_with (go_at_call 93; refine (HC.out _ (hk.trans kr)).mono ?_; rintro e2 w2 ⟨rfl, k2⟩)
        go_roundw
        case rel => exact ⟨k + 1, by omega, by go_num, HE2, kr.trans k2⟩
        case measure => simp [intOf]; omega
      · have HE2 : Hid ((k : Int) = R) := Lib.hid (by
          rw [← hE.out, HX.out, fstN, hok]
          simp)
        rw [hok] at HC
        clear hok
        go_wp2_with (go_at_call 93; refine (HC.out _ (hk.trans kr)).mono ?_; rintro e2 w2 ⟨rfl, k2⟩)
        go_ret
        exact ⟨ret_int HE2.out, kr.trans k2⟩
    · obtain rfl : k = n := by omega
      have HE2 : Hid ((-1 : Int) = R) := Lib.hid (by
        rw [← hE.out, List.drop_eq_nil_of_le (by have := HN.out; omega)]
        rfl)
      go_wp2_with fail
      go_ret
      exact ⟨ret_int HE2.out, kr⟩

set_option maxRecDepth 100000 in
set_option maxHeartbeats 4000000 in
theorem indexFunc_W (lb : Array Value) (p : Int → Bool) (l : List Int) (v : Value) (W1 w : World) (HP : ∀ x ∈ l, ∀ w, Kp W1 w → Calls Tryz.prog 65 (#[.int .i64 x] ++ lb) w fun e w' => e = .returned (.bool (p x)) ∧ Kp w w')
    (hk : Kp W1 w) (hr : RdI w v l) (hl : l.length ≤ 1048576) :
    Calls Tryz.prog 97 #[v, .func (.func 65) #[] lb] w fun e w' => e = .returned (.int .i64 (fstN p l 0)) ∧ Kp w w' := by
  obtain ⟨A, cp, rfl, h⟩ := hr
  have HA := Lib.hid h
  have HPP := Lib.hid HP
  obtain ⟨R, hR⟩ : ∃ R, R = fstN p l 0 := ⟨_, rfl⟩
  rw [← hR]
  have HR := Lib.hid hR
  clear h hR HP
  generalize hn : l.length = n at *
  have HN := Lib.hid hn
  clear hn
  go_enter Tryz.func97, Tryz.ntmps97
  go_wp2_with fail
  go_loopw [5, 8] (fun _ i wr => ∃ k : Nat, k ≤ n ∧ i = .int .i64 k ∧ Hid (fstN p (l.drop k) (k : Int) = R) ∧ Kp w wr) (fun _ i _ => n - (intOf i).toNat)
  case atStart => exact ⟨0, by omega, rfl, Lib.hid (by rw [List.drop_zero]; exact HR.out.symm), Kp.refl w⟩
  case round =>
    obtain ⟨k, hkn, rfl, hE, kr⟩ := hrel
    by_cases hlt : k < n
    · obtain ⟨g', off, rfl, hc⟩ := HA.out (by omega)
      obtain ⟨x, hx⟩ : ∃ x, l[k]? = some x := ⟨l[k]'(by have := HN.out; omega), List.getElem?_eq_getElem _⟩
      have a0 := kr.cell (hc k x hx)
      have HX := Lib.hid (dropN hx)
      have HC := Lib.hid (HPP.out x (List.mem_of_getElem? hx))
      clear hc hx
      have hlt' : (k : Int) < n := by omega
      cases hok : p x
      · have HE2 : Hid (fstN p (l.drop (k + 1)) ((k + 1 : Nat) : Int) = R) := Lib.hid (by
          rw [← hE.out, HX.out, fstN, hok]
          simp only [Bool.false_eq_true, if_false]
          congr 1)
        rw [hok] at HC
        clear hok
        go_wp2_with (go_at_call 65; refine (HC.out _ (hk.trans kr)).mono ?_; rintro e2 w2 ⟨rfl, k2⟩)
        go_roundw
        case rel => exact ⟨k + 1, by omega, by go_num, HE2, kr.trans k2⟩
        case measure => simp [intOf]; omega
      · have HE2 : Hid ((k : Int) = R) := Lib.hid (by
          rw [← hE.out, HX.out, fstN, hok]
          simp)
        rw [hok] at HC
        clear hok
        go_wp2_with (go_at_call 65; refine (HC.out _ (hk.trans kr)).mono ?_; rintro e2 w2 ⟨rfl, k2⟩)
        go_ret
        exact ⟨ret_int HE2.out, kr.trans k2⟩
    · obtain rfl : k = n := by omega
      have HE2 : Hid ((-1 : Int) = R) := Lib.hid (by
        rw [← hE.out, List.drop_eq_nil_of_le (by have := HN.out; omega)]
        rfl)
      go_wp2_with fail
      go_ret
      exact ⟨ret_int HE2.out, kr⟩

theorem fstN_bd {α : Type} (p : α → Bool) (l : List α) (n : Int) (hn : 0 ≤ n) : -1 ≤ fstN p l n ∧ fstN p l n ≤ n + l.length := ⟨(fstN_neg p l n hn).2.1, (fstN_neg p l n hn).2.2⟩
set_option maxRecDepth 100000 in
theorem containsFunc_B (lb : Array Value) (p : Int → Bool) (l : List Int) (v : Value) (W1 w : World) (HP : ∀ x ∈ l, ∀ w, Kp W1 w → Calls Tryz.prog 115 (#[.int .i64 x] ++ lb) w fun e w' => e = .returned (.bool (p x)) ∧ Kp w w')
    (hk : Kp W1 w) (hr : RdI w v l) (hl : l.length ≤ 1048576) :
    Calls Tryz.prog 117 #[v, .func (.func 115) #[] lb] w fun e w' => e = .returned (.bool (l.any p)) ∧ Kp w w' := by
  have C1 := Lib.hid (indexFunc_B lb p l v W1 w HP hk hr hl)
  have h1 := (fstN_neg p l 0 (by omega)).1
  have h2 := fstN_bd p l 0 (by omega)
  have HE : Hid (decide (0 ≤ fstN p l 0) = l.any p) := Lib.hid (by
    cases ha : l.any p
    · rw [ha] at h1
      simpa using h1
    · rw [ha] at h1
      simpa using h1)
  generalize fstN p l 0 = R at C1 HE h2
  generalize l.any p = B at HE ⊢
  clear h1 HP hk hr
  go_enter Tryz.func117, Tryz.ntmps117
  go_wp2_with fail
  refine C1.out.mono ?_
  rintro e1 w1 ⟨rfl, k1⟩
  go_wp2_with fail
  go_ret
  exact ⟨ret_bool HE.out, k1⟩

set_option maxRecDepth 100000 in
theorem containsFunc_C (lb : Array Value) (p : Int → Bool) (l : List Int) (v : Value) (W1 w : World) (HP : ∀ x ∈ l, ∀ w, Kp W1 w → Calls Tryz.prog 118 (#[.int .i64 x] ++ lb) w fun e w' => e = .returned (.bool (p x)) ∧ Kp w w')
    (hk : Kp W1 w) (hr : RdI w v l) (hl : l.length ≤ 1048576) :
    Calls Tryz.prog 117 #[v, .func (.func 118) #[] lb] w fun e w' => e = .returned (.bool (l.any p)) ∧ Kp w w' := by
  have C1 := Lib.hid (indexFunc_C lb p l v W1 w HP hk hr hl)
  have h1 := (fstN_neg p l 0 (by omega)).1
  have h2 := fstN_bd p l 0 (by omega)
  have HE : Hid (decide (0 ≤ fstN p l 0) = l.any p) := Lib.hid (by
    cases ha : l.any p
    · rw [ha] at h1
      simpa using h1
    · rw [ha] at h1
      simpa using h1)
  generalize fstN p l 0 = R at C1 HE h2
  generalize l.any p = B at HE ⊢
  clear h1 HP hk hr
  go_enter Tryz.func117, Tryz.ntmps117
  go_wp2_with fail
  refine C1.out.mono ?_
  rintro e1 w1 ⟨rfl, k1⟩
  go_wp2_with fail
  go_ret
  exact ⟨ret_bool HE.out, k1⟩

theorem zero_int (w : World) : (zeroValue 3).run Tryz.prog w = .ok (.int .i64 0) w := by kernel_rfl
set_option maxRecDepth 100000 in
set_option maxHeartbeats 8000000 in
theorem deleteFunc_S (lb : Array Value) (p : Int → Bool) (l : List Int) (v : Value) (base : Nat) (W1 w : World) (HP : ∀ x ∈ l, ∀ w, Kp W1 w → Calls Tryz.prog 93 (#[.int .i64 x] ++ lb) w fun e w' => e = .returned (.bool (p x)) ∧ Kp w w')
    (hk : Kp W1 w) (ho : OwnI w base v l) (hb : W1.heap.size ≤ base) (hl : l.length ≤ 1048576) :
    Calls Tryz.prog 67 #[v, .func (.func 93) #[] lb] w fun e w' => ∃ v', e = .returned v' ∧ OwnI w' base v' (l.filter fun x => !p x) ∧ Kp W1 w' := by
  have C1 := Lib.hid (indexFunc_S lb p l v W1 w HP hk ho.rd hl)
  rcases fstN_spec p l 0 with ⟨h1, h2⟩ | ⟨k, x, h1, h2, h3, h4⟩
  · rw [h1] at C1
    rw [filter_none h2]
    have HO := Lib.hid ho
    clear h1 h2 HP ho
    go_enter Tryz.func67, Tryz.ntmps67
    go_wp2_with fail
    refine C1.out.mono ?_
    rintro e1 w1 ⟨rfl, k1⟩
    go_wp2_with fail
    go_ret
    exact ⟨_, rfl, HO.out.keep k1, hk.trans k1⟩
  · rw [h3, Int.zero_add] at C1
    have hkl := (List.getElem?_eq_some_iff.1 h1).1
    have K0 := Lib.hid (KeptI.start h1 h2 h4)
    have HPP := Lib.hid HP
    obtain ⟨n, hn⟩ : ∃ n, l.length = n := ⟨_, rfl⟩
    obtain ⟨A, cap, rfl⟩ := ho.slice
    have ho2 := ho.2
    rcases ho2 with ⟨e, _⟩ | ⟨gb, cap', cur, e, hbg, -, hcap, hml, -, -⟩
    · simp only [Value.slice.injEq] at e
      omega
    · simp only [Value.slice.injEq] at e
      obtain ⟨rfl, -, rfl⟩ := e
      rw [hn] at ho C1 hcap hl hkl ⊢
      have HO := Lib.hid ho
      have HN := Lib.hid hn
      have hne1 : ((k : Int) == -1) = false := beq_eq_false_iff_ne.2 (by omega)
      clear h1 h2 h3 h4 HP ho hn
      go_enter Tryz.func67, Tryz.ntmps67
      go_wp2_with fail
      refine C1.out.mono ?_
      rintro e1 w1 ⟨rfl, k1⟩
      go_wp2_with fail
      go_loopw [5, 6, 7] (fun si sj _ wr => ∃ (i j : Nat) (m : List Int), si = .int .i64 i ∧ sj = .int .i64 j ∧ j ≤ n ∧ i < j ∧ Hid (KeptI p l m i j) ∧ Hid (OwnI wr base (.slice (some ⟨gb, 0, none⟩) n cap) m) ∧ Kp W1 wr) (fun _ sj _ _ => n - (intOf sj).toNat)
      case atStart => exact ⟨k, k + 1, l, rfl, by go_num, by omega, by omega, K0, Lib.hid (HO.out.keep k1), hk.trans k1⟩
      case round =>
        obtain ⟨i, j, m, rfl, rfl, hjn, hij, HK, HM, kr⟩ := hrel
        have HML : Hid (m.length = n) := Lib.hid (HK.out.len.trans HN.out)
        by_cases hlt : j < n
        · have hlt' : (j : Int) < n := by omega
          obtain ⟨x, hx⟩ : ∃ x, l[j]? = some x := ⟨l[j]'(by have := HN.out; omega), List.getElem?_eq_getElem _⟩
          obtain ⟨A', c', ea, hc⟩ := HM.out.rd
          simp only [Value.slice.injEq] at ea
          obtain ⟨ea, -, -⟩ := ea
          obtain ⟨g2, o2, eb, hc2⟩ := hc (by have := HML.out; omega)
          rw [← ea] at eb
          simp only [Option.some.injEq, Addr.mk.injEq] at eb
          obtain ⟨rfl, rfl, -⟩ := eb
          have a0 : wr.cell? ⟨gb, j, none⟩ = some (.int .i64 x) := by simpa using hc2 j x (HK.out.at.trans hx)
          have HC := Lib.hid (HPP.out x (List.mem_of_getElem? hx))
          cases hok : p x
          · have HK2 := Lib.hid (HK.out.keep hx hok)
            rw [hok] at HC
            clear hok hc hc2 hx ea
            go_wp2_with (go_at_call 93; refine (HC.out _ kr).mono ?_; rintro e2 w2 ⟨rfl, k2⟩; obtain ⟨⟨u, hu⟩, hf, ho3⟩ := OwnI.put (HM.out.keep k2) HML.out (show i < n by omega) x)
            go_roundw
            case rel => exact ⟨i + 1, j + 1, _, by go_num, by go_num, by omega, by omega, HK2, Lib.hid ho3, (kr.trans k2).setCell (show W1.heap.size ≤ gb by omega) _⟩
            case measure => simp [intOf]; omega
          · have HK2 := Lib.hid (HK.out.skip hx hok)
            rw [hok] at HC
            clear hok hc hc2 hx ea
            go_wp2_with (go_at_call 93; refine (HC.out _ kr).mono ?_; rintro e2 w2 ⟨rfl, k2⟩)
            go_roundw
            case rel => exact ⟨i, j + 1, m, rfl, by go_num, by omega, by omega, HK2, Lib.hid (HM.out.keep k2), kr.trans k2⟩
            case measure => simp [intOf]; omega
        · obtain rfl : j = n := by omega
          have hrow : ∀ t, t < j → (∃ u, wr.cell? ⟨gb, t, none⟩ = some u) ∧ wr.frozen? ⟨gb, t, none⟩ = false := fun t ht => ⟨(HM.out.put HML.out ht 0).1, (HM.out.put HML.out ht 0).2.1⟩
          have hcl : ∀ ty, (Builtin.clear_ #[26] ty #[.slice (some ⟨gb, i, none⟩) (j - i) (cap - i)]).run Tryz.prog wr = .ok (.tuple #[]) (wr.setCells gb i (List.replicate (j - i) (.int .i64 0))) :=
            fun ty => Lib.run_clear_slice wr _ _ ty _ Tryz.underlying26 zero_int rfl rfl gb i _ _ (by omega) (fun t ht => by obtain ⟨⟨u, hu⟩, _⟩ := hrow (i + t) (by omega); rw [hu]; rfl) (fun t ht => (hrow (i + t) (by omega)).2)
          obtain ⟨m', hm1, hm2, hm3⟩ := OwnI.zeros (j - i) i wr m HM.out HML.out (by omega)
          have hfin := OwnI.cut hm3 hm1 (i := i) (by omega)
          have HF : Hid (m'.take i = l.filter fun x => !p x) := Lib.hid (by
            rw [hm2, HK.out.low, ← HN.out, List.take_length])
          rw [HF.out] at hfin
          have HFI := Lib.hid hfin
          have KS := Kp.setCells (W := W1) (g := gb) (by omega) (List.replicate (j - i) (.int .i64 0)) i wr kr
          clear hrow hm1 hm2 hm3 hfin
          go_wp2_with fail
          go_ret
          exact ⟨_, rfl, HFI.out, KS⟩

set_option maxRecDepth 100000 in
set_option maxHeartbeats 8000000 in
theorem deleteFunc_W (lb : Array Value) (p : Int → Bool) (l : List Int) (v : Value) (base : Nat) (W1 w : World) (HP : ∀ x ∈ l, ∀ w, Kp W1 w → Calls Tryz.prog 65 (#[.int .i64 x] ++ lb) w fun e w' => e = .returned (.bool (p x)) ∧ Kp w w')
    (hk : Kp W1 w) (ho : OwnI w base v l) (hb : W1.heap.size ≤ base) (hl : l.length ≤ 1048576) :
    Calls Tryz.prog 67 #[v, .func (.func 65) #[] lb] w fun e w' => ∃ v', e = .returned v' ∧ OwnI w' base v' (l.filter fun x => !p x) ∧ Kp W1 w' := by
  have C1 := Lib.hid (indexFunc_W lb p l v W1 w HP hk ho.rd hl)
  rcases fstN_spec p l 0 with ⟨h1, h2⟩ | ⟨k, x, h1, h2, h3, h4⟩
  · rw [h1] at C1
    rw [filter_none h2]
    have HO := Lib.hid ho
    clear h1 h2 HP ho
    go_enter Tryz.func67, Tryz.ntmps67
    go_wp2_with fail
    refine C1.out.mono ?_
    rintro e1 w1 ⟨rfl, k1⟩
    go_wp2_with fail
    go_ret
    exact ⟨_, rfl, HO.out.keep k1, hk.trans k1⟩
  · rw [h3, Int.zero_add] at C1
    have hkl := (List.getElem?_eq_some_iff.1 h1).1
    have K0 := Lib.hid (KeptI.start h1 h2 h4)
    have HPP := Lib.hid HP
    obtain ⟨n, hn⟩ : ∃ n, l.length = n := ⟨_, rfl⟩
    obtain ⟨A, cap, rfl⟩ := ho.slice
    have ho2 := ho.2
    rcases ho2 with ⟨e, _⟩ | ⟨gb, cap', cur, e, hbg, -, hcap, hml, -, -⟩
    · simp only [Value.slice.injEq] at e
      omega
    · simp only [Value.slice.injEq] at e
      obtain ⟨rfl, -, rfl⟩ := e
      rw [hn] at ho C1 hcap hl hkl ⊢
      have HO := Lib.hid ho
      have HN := Lib.hid hn
      have hne1 : ((k : Int) == -1) = false := beq_eq_false_iff_ne.2 (by omega)
      clear h1 h2 h3 h4 HP ho hn
      go_enter Tryz.func67, Tryz.ntmps67
      go_wp2_with fail
      refine C1.out.mono ?_
      rintro e1 w1 ⟨rfl, k1⟩
      go_wp2_with fail
      go_loopw [5, 6, 7] (fun si sj _ wr => ∃ (i j : Nat) (m : List Int), si = .int .i64 i ∧ sj = .int .i64 j ∧ j ≤ n ∧ i < j ∧ Hid (KeptI p l m i j) ∧ Hid (OwnI wr base (.slice (some ⟨gb, 0, none⟩) n cap) m) ∧ Kp W1 wr) (fun _ sj _ _ => n - (intOf sj).toNat)
      case atStart => exact ⟨k, k + 1, l, rfl, by go_num, by omega, by omega, K0, Lib.hid (HO.out.keep k1), hk.trans k1⟩
      case round =>
        obtain ⟨i, j, m, rfl, rfl, hjn, hij, HK, HM, kr⟩ := hrel
        have HML : Hid (m.length = n) := Lib.hid (HK.out.len.trans HN.out)
        by_cases hlt : j < n
        · have hlt' : (j : Int) < n := by omega
          obtain ⟨x, hx⟩ : ∃ x, l[j]? = some x := ⟨l[j]'(by have := HN.out; omega), List.getElem?_eq_getElem _⟩
          obtain ⟨A', c', ea, hc⟩ := HM.out.rd
          simp only [Value.slice.injEq] at ea
          obtain ⟨ea, -, -⟩ := ea
          obtain ⟨g2, o2, eb, hc2⟩ := hc (by have := HML.out; omega)
          rw [← ea] at eb
          simp only [Option.some.injEq, Addr.mk.injEq] at eb
          obtain ⟨rfl, rfl, -⟩ := eb
          have a0 : wr.cell? ⟨gb, j, none⟩ = some (.int .i64 x) := by simpa using hc2 j x (HK.out.at.trans hx)
          have HC := Lib.hid (HPP.out x (List.mem_of_getElem? hx))
          cases hok : p x
          · have HK2 := Lib.hid (HK.out.keep hx hok)
            rw [hok] at HC
            clear hok hc hc2 hx ea
            go_wp2_with (go_at_call 65; refine (HC.out _ kr).mono ?_; rintro e2 w2 ⟨rfl, k2⟩; obtain ⟨⟨u, hu⟩, hf, ho3⟩ := OwnI.put (HM.out.keep k2) HML.out (show i < n by omega) x)
            go_roundw
            case rel => exact ⟨i + 1, j + 1, _, by go_num, by go_num, by omega, by omega, HK2, Lib.hid ho3, (kr.trans k2).setCell (show W1.heap.size ≤ gb by omega) _⟩
            case measure => simp [intOf]; omega
          · have HK2 := Lib.hid (HK.out.skip hx hok)
            rw [hok] at HC
            clear hok hc hc2 hx ea
            go_wp2_with (go_at_call 65; refine (HC.out _ kr).mono ?_; rintro e2 w2 ⟨rfl, k2⟩)
            go_roundw
            case rel => exact ⟨i, j + 1, m, rfl, by go_num, by omega, by omega, HK2, Lib.hid (HM.out.keep k2), kr.trans k2⟩
            case measure => simp [intOf]; omega
        · obtain rfl : j = n := by omega
          have hrow : ∀ t, t < j → (∃ u, wr.cell? ⟨gb, t, none⟩ = some u) ∧ wr.frozen? ⟨gb, t, none⟩ = false := fun t ht => ⟨(HM.out.put HML.out ht 0).1, (HM.out.put HML.out ht 0).2.1⟩
          have hcl : ∀ ty, (Builtin.clear_ #[26] ty #[.slice (some ⟨gb, i, none⟩) (j - i) (cap - i)]).run Tryz.prog wr = .ok (.tuple #[]) (wr.setCells gb i (List.replicate (j - i) (.int .i64 0))) :=
            fun ty => Lib.run_clear_slice wr _ _ ty _ Tryz.underlying26 zero_int rfl rfl gb i _ _ (by omega) (fun t ht => by obtain ⟨⟨u, hu⟩, _⟩ := hrow (i + t) (by omega); rw [hu]; rfl) (fun t ht => (hrow (i + t) (by omega)).2)
          obtain ⟨m', hm1, hm2, hm3⟩ := OwnI.zeros (j - i) i wr m HM.out HML.out (by omega)
          have hfin := OwnI.cut hm3 hm1 (i := i) (by omega)
          have HF : Hid (m'.take i = l.filter fun x => !p x) := Lib.hid (by
            rw [hm2, HK.out.low, ← HN.out, List.take_length])
          rw [HF.out] at hfin
          have HFI := Lib.hid hfin
          have KS := Kp.setCells (W := W1) (g := gb) (by omega) (List.replicate (j - i) (.int .i64 0)) i wr kr
          clear hrow hm1 hm2 hm3 hfin
          go_wp2_with fail
          go_ret
          exact ⟨_, rfl, HFI.out, KS⟩

end Go.Proofs.YtfohhofpfmbheaaGreatDoor
