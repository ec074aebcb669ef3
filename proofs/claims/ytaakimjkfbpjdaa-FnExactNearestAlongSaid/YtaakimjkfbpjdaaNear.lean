/-
  The index of the nearest hex of a list, as a plain function on integers; copying a slice of hexes; counting its length.
-/
import Derived.Test.YtaakimjkfbpjdaaRowB
import Derived.Test.YtaakimjkfbpjdaaDist
namespace Go.Proofs.Ytaakimjkfbpjdaa
open Go.RowKit

def dAt (l : List (Int × Int)) (q r : Int) (i : Nat) : Int := distH (l[i]?.getD (0, 0)).1 (l[i]?.getD (0, 0)).2 q r
def bestUp (l : List (Int × Int)) (q r : Int) : Nat → Nat
  | 0 => 0
  | k + 1 => if dAt l q r k < dAt l q r (bestUp l q r k) then k else bestUp l q r k
theorem bestUp_le (l : List (Int × Int)) (q r : Int) : ∀ k, bestUp l q r k ≤ k
  | 0 => Nat.le_refl _
  | k + 1 => by
    have := bestUp_le l q r k
    simp only [bestUp]
    split <;> omega
theorem bestUp_lt (l : List (Int × Int)) (q r : Int) (n : Nat) (hn : 0 < n) : ∀ k, k ≤ n → bestUp l q r k < n
  | 0, _ => hn
  | k + 1, h => by
    have := bestUp_lt l q r n hn k (by omega)
    simp only [bestUp]
    split <;> omega
def nearOk (l : List (Int × Int)) (q r : Int) : Bool := (decide (1 ≤ l.length) && decide (l.length ≤ 60)) && okH q r && allOk l
def nearI (l : List (Int × Int)) (q r : Int) : Int := if nearOk l q r = true then (bestUp l q r l.length : Int) else 0

theorem mkHexN (n : Nat) (hn : n ≤ 1048576) (w : World) :
    (Instr.makeSlice 32 (.int .i64 (n : Int)) (.int .i64 (n : Int))).run Try.prog w = .ok (.slice (some ⟨w.heap.size, 0, none⟩) n n) (w.alloc (.cells (madeCells (hx 0 0).cells (n * 2)) 25)) := by
  obtain ⟨i, hi, hz, hs, hb⟩ := info_parts infoHex
  have hr := run_make (P := Try.prog) w 32 25 i (hx 0 0) Try.underlying32 hi hz .i64 .i64 (n : Int) (n : Int) (by omega) (Int.le_refl _) (by rw [hb]; omega) (by omega)
  rw [hs, Int.toNat_natCast] at hr
  exact hr

theorem szHexS_any (A : Option Addr) (n c : Nat) (w : World) (h : n ≤ 1048576) :
    Calls Try.prog 35 #[.slice A n c, .int .i64 1048576] w fun e w' => e = .returned (.int .i64 (1048576 - n)) ∧ w = w' := by
  have h1 : ¬ (1048576 : Int) - n < 0 := by omega
  go_enter Try.func35, Try.ntmps35
  go_wp2_with fail
  go_ret
  exact ⟨rfl, rfl⟩
theorem szHexS_big (A : Option Addr) (n c : Nat) (w : World) (h : 1048576 < n) (hm : n ≤ maxLen) :
    Calls Try.prog 35 #[.slice A n c, .int .i64 1048576] w fun e w' => e = .returned (.int .i64 (-1)) ∧ w = w' := by
  unfold maxLen at hm
  have h1 : (1048576 : Int) - n < 0 := by omega
  go_enter Try.func35, Try.ntmps35
  go_wp2_with fail
  go_ret
  exact ⟨rfl, rfl⟩

theorem toHexS_any (v : Value) (l : List (Int × Int)) (w : World) (h : RdH w v l) (hl : l.length ≤ 1048576) :
    Calls Try.prog 37 #[v] w fun e w' => ∃ v', e = .returned v' ∧ OwnH w' w.heap.size v' l ∧ Kp w w' := by
  obtain ⟨A, c, rfl, h⟩ := h
  have HA := Lib.hid h
  clear h
  obtain ⟨n, hn⟩ : ∃ n, l.length = n := ⟨_, rfl⟩
  have HN := Lib.hid hn
  rw [hn] at hl ⊢
  rw [hn] at HA
  clear hn
  have hmk := fun w => mkHexN n hl w
  have own0 : (w.alloc (.cells (madeCells #[.int .i64 0, .int .i64 0] (n * 2)) 25)).ownsRow w.heap.size 25 2 (.slice (some ⟨w.heap.size, 0, none⟩) n n) n (madeCells #[.int .i64 0, .int .i64 0] (n * 2)).toList :=
    World.ownsRow_lit w _ n (Nat.le_refl _) (by simp only [maxLen]; omega) (by rw [size_madeCells])
  go_enter Try.func37, Try.ntmps37
  go_wp2_with fail
  go_loopw [4] (fun i wr => ∃ k : Nat, k ≤ n ∧ i = .int .i64 k ∧ (∃ ys, wr.ownsRow w.heap.size 25 2 (.slice (some ⟨w.heap.size, 0, none⟩) n n) n ys ∧ ∀ j x, j < k → l[j]? = some x → ys[j * 2]? = some (.int .i64 x.1) ∧ ys[j * 2 + 1]? = some (.int .i64 x.2)) ∧ Kp w wr) (fun i _ => n - (intOf i).toNat)
  case atStart => exact ⟨0, by omega, rfl, ⟨_, own0, fun j x hj => absurd hj (by omega)⟩, (Kp.refl _).alloc _⟩
  case round =>
    clear own0 hmk
    obtain ⟨k, hk, rfl, ⟨ys, ho, hys⟩, kr⟩ := hrel
    have HY := Lib.hid hys
    clear hys
    by_cases hlt : k < n
    · have hlt' : (k : Int) < n := by omega
      obtain ⟨g, off, rfl, hc⟩ := HA.out (by omega)
      obtain ⟨x, hx⟩ : ∃ x, l[k]? = some x := ⟨l[k]'(by have := HN.out; omega), List.getElem?_eq_getElem _⟩
      have a0 := kr.cell (hc k x hx).1
      have a1 := kr.cell (hc k x hx).2
      have HX := Lib.hid hx
      clear hc hx
      obtain ⟨px, py⟩ := x
      simp only at a0 a1
      have HO := Lib.hid ho
      clear ho
      go_wp2_with fail
      refine (toHex_any _ _ _).mono ?_
      rintro e w1 ⟨rfl, k1⟩
      have ho := ownsRow_keep HO.out k1
      have hlen : ys.length = n * 2 := ho.1
      obtain ⟨u0, hu0⟩ : ∃ u, w1.cell? ⟨w.heap.size, k * 2, none⟩ = some u := ⟨_, (ho.cellAt (k * 2) (by omega)).trans (List.getElem?_eq_getElem (by omega))⟩
      obtain ⟨u1, hu1⟩ : ∃ u, w1.cell? ⟨w.heap.size, k * 2 + 1, none⟩ = some u := ⟨_, (ho.cellAt (k * 2 + 1) (by omega)).trans (List.getElem?_eq_getElem (by omega))⟩
      have f0 := ho.frozenAt (k * 2)
      have f1 := ho.frozenAt (k * 2 + 1)
      have HLen := Lib.hid hlen
      clear hlen
      go_wp2_with fail
      go_roundw
      case rel =>
        obtain ⟨o1, g1⟩ := ho.stored (k * 2) (.int .i64 px)
        obtain ⟨o2, g2⟩ := o1.stored (k * 2 + 1) (.int .i64 py)
        refine ⟨k + 1, by omega, by go_num, ⟨_, o2, fun j y hj hy => ?_⟩, ((kr.trans k1).setCell (by simp) _).setCell (by simp) _⟩
        have hlen := HLen.out
        by_cases e : k = j
        · subst e
          rw [HX.out] at hy
          obtain rfl := Option.some.inj hy
          constructor
          · rw [List.getElem?_set, if_neg (by omega), List.getElem?_set, if_pos rfl, if_pos (by omega)]
          · rw [List.getElem?_set, if_pos rfl, if_pos (by rw [List.length_set]; omega)]
        · have := HY.out j y (by omega) hy
          constructor
          · rw [List.getElem?_set, if_neg (by omega), List.getElem?_set, if_neg (by omega)]; exact this.1
          · rw [List.getElem?_set, if_neg (by omega), List.getElem?_set, if_neg (by omega)]; exact this.2
      case measure => simp [intOf]; omega
    · obtain rfl : k = n := by omega
      go_wp2_with fail
      go_ret
      have e : ys = cellsH l := by
        apply List.ext_getElem?
        intro j
        have hl1 : ys.length = k * 2 := ho.1
        have hl2 := HN.out
        have hl3 := cellsH_length l
        by_cases hj : j < k * 2
        · have hi : j / 2 < l.length := by omega
          have hx : l[j / 2]? = some (l[j / 2]'hi) := List.getElem?_eq_getElem _
          have h1 := HY.out (j / 2) _ (by omega) hx
          have h2 := cellsH_at l (j / 2) _ hx
          rcases Nat.mod_two_eq_zero_or_one j with hm | hm
          · rw [show j = j / 2 * 2 from by omega, h1.1, h2.1]
          · rw [show j = j / 2 * 2 + 1 from by omega, h1.2, h2.2]
        · rw [List.getElem?_eq_none (by omega), List.getElem?_eq_none (by omega)]
      refine ⟨_, rfl, ?_, kr⟩
      unfold OwnH
      rw [HN.out, ← e]
      exact ho
end Go.Proofs.Ytaakimjkfbpjdaa
