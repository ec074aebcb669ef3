/-
  Slices of odds as lists of pairs of integers: the laws' size, copy, comparison and marking.
-/
import Derived.Test.YtgeophllbmjjfaaDoorII
namespace Go.Proofs.YtgeophllbmjjfaaDoor
open Go.RowKit

/-- The slice v owns the list l of odds, in a block from base on. -/
def OwnO (w : World) (base : Nat) (v : Value) (l : List (Int × Int)) : Prop := w.ownsRow base 47 2 v l.length (cellsH l)
theorem OwnO.rd {w : World} {base : Nat} {v : Value} {l : List (Int × Int)} (h : OwnO w base v l) : RdH w v l := by
  rcases h.2 with ⟨rfl, hn⟩ | ⟨g, cap, cur, rfl, hb, hg, hc, hm, hs, ht⟩
  · exact ⟨none, 0, by rw [hn], fun h0 => by omega⟩
  · refine ⟨_, _, rfl, fun _ => ⟨g, 0, rfl, fun i x hx => ?_⟩⟩
    have hi : i < l.length := (List.getElem?_eq_some_iff.1 hx).1
    have e := cellsH_at l i x hx
    rw [Nat.zero_add]
    exact ⟨(World.ownsRow.cellAt h (i * 2) (by omega)).trans e.1, (World.ownsRow.cellAt h (i * 2 + 1) (by omega)).trans e.2⟩

theorem OwnO.base {w : World} {base b : Nat} {v : Value} {l : List (Int × Int)} (h : OwnO w base v l) (hb : b ≤ base) : OwnO w b v l := ownsRow_base h hb
theorem OwnO.keep {w w' : World} {base : Nat} {v : Value} {l : List (Int × Int)} (h : OwnO w base v l) (hk : Kp w w') : OwnO w' base v l := ownsRow_keep h hk
theorem infoOdds : (Tryd.prog.info? 47).map (fun i => (i.zero, i.size, i.bytes)) = some (some (hx 0 0), 2, 16) := by kernel_rfl
theorem OwnO.slice {w : World} {base : Nat} {v : Value} {l : List (Int × Int)} (h : OwnO w base v l) : ∃ A c, v = .slice A l.length c := by
  obtain ⟨A, c, rfl, _⟩ := h.rd
  exact ⟨A, c, rfl⟩
theorem OwnO.far {w : World} {base : Nat} {v : Value} {l : List (Int × Int)} (h : OwnO w base v l) {g j : Nat} (hne : v.ownBlock ≠ some g) (u : Value) : OwnO (w.setCell ⟨g, j, none⟩ u) base v l :=
  World.ownsRow.kept h (grown_set w g j u) (.inr hne)
theorem OwnO.not {w : World} {base : Nat} {v : Value} {l : List (Int × Int)} (h : OwnO w base v l) {g : Nat} (hg : g < base) : v.ownBlock ≠ some g := fun e => by
  have := (World.ownsRow.lt h g e).1
  omega

theorem eqOdds_any (aq ar bq br : Int) (w : World) :
    Calls Tryd.prog 49 #[hx aq ar, hx bq br] w fun e w' => e = .returned (.bool (decide (aq = bq) && decide (ar = br))) ∧ Kp w w' := by
  by_cases h1 : aq = bq
  · subst h1
    by_cases h2 : ar = br
    · subst h2
      go_enter Tryd.func49, Tryd.ntmps49
      go_wp2
      go_ret
      exact ⟨ret_bool (by simp), ((Kp.refl _).alloc _).alloc _⟩
    · have hd : (ar == br) = false := by simpa using h2
      have hd' : (ar != br) = true := by simpa using h2
      go_enter Tryd.func49, Tryd.ntmps49
      go_wp2
      go_ret
      exact ⟨ret_bool (by simp [h2]), ((Kp.refl _).alloc _).alloc _⟩
  · have hd : (aq == bq) = false := by simpa using h1
    have hd' : (aq != bq) = true := by simpa using h1
    go_enter Tryd.func49, Tryd.ntmps49
    go_wp2
    go_ret
    exact ⟨ret_bool (by simp [h1]), ((Kp.refl _).alloc _).alloc _⟩

theorem toOdds_any (q r : Int) (w : World) :
    Calls Tryd.prog 38 #[hx q r] w fun e w' => e = .returned (hx q r) ∧ Kp w w' := by
  go_enter Tryd.func38, Tryd.ntmps38
  go_wp2
  exact bodyPost_ret (v := hx q r) (by simp [results, Tryd.results38, go_sem]) rfl ⟨rfl, (((Kp.refl _).alloc _).alloc _).alloc _⟩

theorem szOddsS_yes (A : Option Addr) (n c : Nat) (left : Int) (w : World) (h : (n : Int) ≤ left) (h0 : 0 ≤ left) (h1 : left ≤ 1048576) :
    Calls Tryd.prog 14 #[.slice A n c, .int .i64 left] w fun e w' => e = .returned (.int .i64 (left - n)) ∧ w = w' := by
  go_enter Tryd.func14, Tryd.ntmps14
  go_wp2
  go_ret
  exact ⟨rfl, rfl⟩
theorem szOddsS_no (A : Option Addr) (n c : Nat) (left : Int) (w : World) (h : left < n) (h0 : 0 ≤ left) (h1 : left ≤ 1048576) (hn : n ≤ 9223372036854775807) :
    Calls Tryd.prog 14 #[.slice A n c, .int .i64 left] w fun e w' => e = .returned (.int .i64 (-1)) ∧ w = w' := by
  go_enter Tryd.func14, Tryd.ntmps14
  go_wp2
  go_ret
  exact ⟨rfl, rfl⟩

theorem mkOddsN (n : Nat) (hn : n ≤ 1048576) (w : World) :
    (Instr.makeSlice 29 (.int .i64 (n : Int)) (.int .i64 (n : Int))).run Tryd.prog w = .ok (.slice (some ⟨w.heap.size, 0, none⟩) n n) (w.alloc (.cells (madeCells (hx 0 0).cells (n * 2)) 47)) := by
  obtain ⟨i, hi, hz, hs, hb⟩ := info_parts infoOdds
  have hr := run_make (P := Tryd.prog) w 29 47 i (hx 0 0) Tryd.underlying29 hi hz .i64 .i64 (n : Int) (n : Int) (by omega) (Int.le_refl _) (by rw [hb]; omega) (by omega)
  rw [hs, Int.toNat_natCast] at hr
  exact hr

theorem toOddsS_any (v : Value) (l : List (Int × Int)) (w : World) (h : RdH w v l) (hl : l.length ≤ 1048576) :
    Calls Tryd.prog 18 #[v] w fun e w' => ∃ v', e = .returned v' ∧ OwnO w' w.heap.size v' l ∧ Kp w w' := by
  obtain ⟨A, c, rfl, h⟩ := h
  have HA := Lib.hid h
  clear h
  obtain ⟨n, hn⟩ : ∃ n, l.length = n := ⟨_, rfl⟩
  have HN := Lib.hid hn
  rw [hn] at hl ⊢
  rw [hn] at HA
  clear hn
  have hmk := fun w => mkOddsN n hl w
  have own0 : (w.alloc (.cells (madeCells #[.int .i64 0, .int .i64 0] (n * 2)) 47)).ownsRow w.heap.size 47 2 (.slice (some ⟨w.heap.size, 0, none⟩) n n) n (madeCells #[.int .i64 0, .int .i64 0] (n * 2)).toList :=
    World.ownsRow_lit w _ n (Nat.le_refl _) (by simp only [maxLen]; omega) (by rw [size_madeCells])
  go_enter Tryd.func18, Tryd.ntmps18
  go_wp2_with fail
  go_loopw [4] (fun i wr => ∃ k : Nat, k ≤ n ∧ i = .int .i64 k ∧ (∃ ys, wr.ownsRow w.heap.size 47 2 (.slice (some ⟨w.heap.size, 0, none⟩) n n) n ys ∧ ∀ j x, j < k → l[j]? = some x → ys[j * 2]? = some (.int .i64 x.1) ∧ ys[j * 2 + 1]? = some (.int .i64 x.2)) ∧ Kp w wr) (fun i _ => n - (intOf i).toNat)
  case atStart => exact ⟨0, by omega, rfl, ⟨_, own0, fun j x hj => absurd hj (by omega)⟩, (Kp.refl _).alloc _⟩
  case round =>
    clear own0 hmk
    obtain ⟨k, hk, rfl, ⟨ys, ho, hys⟩, kr⟩ := hrel
    have HY := Lib.hid hys
    clear hys
    by_cases hlt : k < n
    · have hlt' : (k : Int) < n := by omega
      obtain ⟨g, off, rfl, hc⟩ := HA.out (by omega)
      obtain ⟨x, hx⟩ : ∃ x, l[k]? = some x := ⟨l[k]'(by have := HN.out; omega), List.getElem?_eq_getElem _⟩
      have a0 := kr.cell (hc k x hx).1
      have a1 := kr.cell (hc k x hx).2
      have HX := Lib.hid hx
      clear hc hx
      obtain ⟨px, py⟩ := x
      simp only at a0 a1
      have HO := Lib.hid ho
      clear ho
      go_wp2_with fail
      refine (toOdds_any _ _ _).mono ?_
      rintro e w1 ⟨rfl, k1⟩
      have ho := ownsRow_keep HO.out k1
      have hlen : ys.length = n * 2 := ho.1
      obtain ⟨u0, hu0⟩ : ∃ u, w1.cell? ⟨w.heap.size, k * 2, none⟩ = some u := ⟨_, (ho.cellAt (k * 2) (by omega)).trans (List.getElem?_eq_getElem (by omega))⟩
      obtain ⟨u1, hu1⟩ : ∃ u, w1.cell? ⟨w.heap.size, k * 2 + 1, none⟩ = some u := ⟨_, (ho.cellAt (k * 2 + 1) (by omega)).trans (List.getElem?_eq_getElem (by omega))⟩
      have f0 := ho.frozenAt (k * 2)
      have f1 := ho.frozenAt (k * 2 + 1)
      have HLen := Lib.hid hlen
      clear hlen
      go_wp2_with fail
      go_roundw
      case rel =>
        obtain ⟨o1, g1⟩ := ho.stored (k * 2) (.int .i64 px)
        obtain ⟨o2, g2⟩ := o1.stored (k * 2 + 1) (.int .i64 py)
        refine ⟨k + 1, by omega, by go_num, ⟨_, o2, fun j y hj hy => ?_⟩, ((kr.trans k1).setCell (by simp) _).setCell (by simp) _⟩
        have hlen := HLen.out
        by_cases e : k = j
        · subst e
          rw [HX.out] at hy
          obtain rfl := Option.some.inj hy
          constructor
          · rw [List.getElem?_set, if_neg (by omega), List.getElem?_set, if_pos rfl, if_pos (by omega)]
          · rw [List.getElem?_set, if_pos rfl, if_pos (by rw [List.length_set]; omega)]
        · have := HY.out j y (by omega) hy
          constructor
          · rw [List.getElem?_set, if_neg (by omega), List.getElem?_set, if_neg (by omega)]; exact this.1
          · rw [List.getElem?_set, if_neg (by omega), List.getElem?_set, if_neg (by omega)]; exact this.2
      case measure => simp [intOf]; omega
    · obtain rfl : k = n := by omega
      go_wp2_with fail
      go_ret
      have e : ys = cellsH l := by
        apply List.ext_getElem?
        intro j
        have hl1 : ys.length = k * 2 := ho.1
        have hl2 := HN.out
        have hl3 := cellsH_length l
        by_cases hj : j < k * 2
        · have hi : j / 2 < l.length := by omega
          have hx : l[j / 2]? = some (l[j / 2]'hi) := List.getElem?_eq_getElem _
          have h1 := HY.out (j / 2) _ (by omega) hx
          have h2 := cellsH_at l (j / 2) _ hx
          rcases Nat.mod_two_eq_zero_or_one j with hm | hm
          · rw [show j = j / 2 * 2 from by omega, h1.1, h2.1]
          · rw [show j = j / 2 * 2 + 1 from by omega, h1.2, h2.2]
        · rw [List.getElem?_eq_none (by omega), List.getElem?_eq_none (by omega)]
      refine ⟨_, rfl, ?_, kr⟩
      unfold OwnO
      rw [HN.out, ← e]
      exact ho

theorem eqOddsS_same (va vb : Value) (l : List (Int × Int)) (w : World) (ha : RdH w va l) (hb : RdH w vb l) (hl : l.length ≤ 1048576) :
    Calls Tryd.prog 24 #[va, vb] w fun e w' => e = .returned (.bool true) ∧ Kp w w' := by
  obtain ⟨A, ca, rfl, ha⟩ := ha
  obtain ⟨B, cb, rfl, hb⟩ := hb
  have HA := Lib.hid ha
  have HB := Lib.hid hb
  clear ha hb
  generalize hn : l.length = n at *
  have HN := Lib.hid hn
  clear hn
  go_enter Tryd.func24, Tryd.ntmps24
  go_wp2_with fail
  go_loopw [5] (fun i wr => ∃ k : Nat, k ≤ n ∧ i = .int .i64 k ∧ Kp w wr) (fun i _ => n - (intOf i).toNat)
  case atStart => exact ⟨0, by omega, rfl, Kp.refl _⟩
  case round =>
    obtain ⟨k, hk, rfl, kr⟩ := hrel
    by_cases hlt : k < n
    · obtain ⟨ga, oa, rfl, ca'⟩ := HA.out (by omega)
      obtain ⟨gb, ob, rfl, cb'⟩ := HB.out (by omega)
      obtain ⟨x, hx⟩ : ∃ x, l[k]? = some x := ⟨l[k]'(by have := HN.out; omega), List.getElem?_eq_getElem _⟩
      have a0 := kr.cell (ca' k x hx).1
      have a1 := kr.cell (ca' k x hx).2
      have b0 := kr.cell (cb' k x hx).1
      have b1 := kr.cell (cb' k x hx).2
      clear ca' cb' hx
      have hlt' : (k : Int) < n := by omega
      go_wp2_with fail
      go_region_held3 (fun w' => w'.cell? ⟨ga, oa + k * 2, none⟩ = some (.int .i64 x.1) ∧ w'.cell? ⟨ga, oa + k * 2 + 1, none⟩ = some (.int .i64 x.2) ∧ w'.cell? ⟨gb, ob + k * 2, none⟩ = some (.int .i64 x.1) ∧ w'.cell? ⟨gb, ob + k * 2 + 1, none⟩ = some (.int .i64 x.2)) (first | assumption | go_keep)
        (first | (go_at_call 49; refine (eqOdds_any _ _ _ _ _).mono ?_; rintro e w1 ⟨rfl, k1⟩; have s1 := k1.four (by assumption)))
      all_goals
        go_wp2_with fail
        go_roundw
        case rel => exact ⟨k + 1, by omega, by go_num, kr.drew.trans k1⟩
        case measure => simp [intOf]; omega
    · obtain rfl : k = n := by omega
      go_wp2_with fail
      go_ret
      exact ⟨rfl, kr⟩

theorem markOddsS_own (g n cap base : Nat) (k0 : Int) (xs : List Value) (w : World) (h0 : 0 ≤ k0) (h1 : k0 ≤ 1000000) (hn : n ≤ 1048576)
    (hown : w.ownsRow base 47 2 (.slice (some ⟨g, 0, none⟩) n cap) n xs) :
    Calls Tryd.prog 29 #[.slice (some ⟨g, 0, none⟩) n cap, .int .i64 k0] w fun e w' => e = .returned (.int .i64 (k0 + 2 * n)) ∧ w'.ownsRow base 47 2 (.slice (some ⟨g, 0, none⟩) n cap) n (marks k0 (n * 2)) ∧ w.grownBy w' (some g) := by
  have hl : xs.length = n * 2 := hown.1
  have HL := Lib.hid hl
  clear hl
  go_enter Tryd.func29, Tryd.ntmps29
  go_wp2_with fail
  go_loopw [1, 5] (fun kk i wr => ∃ t : Nat, t ≤ n ∧ i = .int .i64 t ∧ kk = .int .i64 (k0 + 2 * t) ∧ wr.ownsRow base 47 2 (.slice (some ⟨g, 0, none⟩) n cap) n (marks k0 (t * 2) ++ xs.drop (t * 2)) ∧ w.grownBy wr (some g)) (fun _ i _ => n - (intOf i).toNat)
  case atStart => exact ⟨0, by omega, rfl, by simp, by simpa [marks] using hown, World.grownBy.refl w _⟩
  case round =>
    obtain ⟨t, ht, rfl, rfl, ho, hg⟩ := hrel
    by_cases hlt : t < n
    · have hlt' : (t : Int) < n := by omega
      have hlen : (marks k0 (t * 2) ++ xs.drop (t * 2)).length = n * 2 := ho.1
      obtain ⟨u0, hu0⟩ : ∃ u, wr.cell? ⟨g, t * 2, none⟩ = some u := ⟨_, (ho.cellAt (t * 2) (by omega)).trans (List.getElem?_eq_getElem (by omega))⟩
      obtain ⟨u1, hu1⟩ : ∃ u, wr.cell? ⟨g, t * 2 + 1, none⟩ = some u := ⟨_, (ho.cellAt (t * 2 + 1) (by omega)).trans (List.getElem?_eq_getElem (by omega))⟩
      have f0 := ho.frozenAt (t * 2)
      have f1 := ho.frozenAt (t * 2 + 1)
      clear hlen
      go_wp2_with fail
      go_roundw
      case rel =>
        obtain ⟨o1, g1⟩ := ho.stored (t * 2) (.int .i64 (k0 + 2 * t))
        obtain ⟨o2, g2⟩ := o1.stored (t * 2 + 1) (.int .i64 (k0 + 2 * t + 1))
        refine ⟨t + 1, by omega, by go_num, by go_num, ?_, (hg.trans g1).trans g2⟩
        rw [← marks_step k0 xs t n HL.out hlt]
        have e1 : (k0 + 2 * (t : Int)) = k0 + (t * 2 : Nat) := by omega
        have e2 : (k0 + 2 * (t : Int) + 1) = k0 + (t * 2 + 1 : Nat) := by omega
        rw [← e1, ← e2]
        exact o2
      case measure => simp [intOf]; omega
    · obtain rfl : t = n := by omega
      go_wp2_with fail
      go_ret
      refine ⟨rfl, ?_, hg⟩
      have e : xs.drop (t * 2) = [] := List.drop_of_length_le (by rw [HL.out]; omega)
      rw [e, List.append_nil] at ho
      exact ho

theorem heldOddsS_own (g n cap base : Nat) (k0 : Int) (w : World) (h0 : 0 ≤ k0) (h1 : k0 ≤ 1000000) (hn : n ≤ 1048576)
    (hown : w.ownsRow base 47 2 (.slice (some ⟨g, 0, none⟩) n cap) n (marks k0 (n * 2))) :
    Calls Tryd.prog 31 #[.slice (some ⟨g, 0, none⟩) n cap, .int .i64 k0] w fun e w' => e = .returned (.int .i64 (k0 + 2 * n)) ∧ w = w' := by
  go_enter Tryd.func31, Tryd.ntmps31
  go_wp2_with fail
  go_loop [1, 5] (fun kk i => ∃ t : Nat, t ≤ n ∧ i = .int .i64 t ∧ kk = .int .i64 (k0 + 2 * t)) (fun _ i => n - (intOf i).toNat)
  case atStart => exact ⟨0, by omega, rfl, by simp⟩
  case round =>
    obtain ⟨t, ht, rfl, rfl⟩ := hrel
    by_cases hlt : t < n
    · have hlt' : (t : Int) < n := by omega
      have e1 : (k0 + (t * 2 : Nat)) = (k0 + 2 * (t : Int)) := by omega
      have e2 : (k0 + (t * 2 + 1 : Nat)) = (k0 + 2 * (t : Int) + 1) := by omega
      have c0 : w.cell? ⟨g, t * 2, none⟩ = some (.int .i64 (k0 + 2 * t)) := by rw [← e1]; exact (hown.cellAt (t * 2) (by omega)).trans (marks_at _ _ _ (by omega))
      have c1 : w.cell? ⟨g, t * 2 + 1, none⟩ = some (.int .i64 (k0 + 2 * t + 1)) := by rw [← e2]; exact (hown.cellAt (t * 2 + 1) (by omega)).trans (marks_at _ _ _ (by omega))
      clear e1 e2
      go_wp2_with fail
      go_round
      case rel => exact ⟨t + 1, by omega, by go_num, by go_num⟩
      case measure => simp [intOf]; omega
    · obtain rfl : t = n := by omega
      go_wp2_with fail
      go_ret
      exact ⟨rfl, rfl⟩

/-- Marking whatever slice of hexes the call owns: nil too. -/

theorem markOddsS_gen (v : Value) (n base : Nat) (k0 : Int) (xs : List Value) (w : World) (h0 : 0 ≤ k0) (h1 : k0 ≤ 1000000) (hn : n ≤ 1048576) (hown : w.ownsRow base 47 2 v n xs) :
    Calls Tryd.prog 29 #[v, .int .i64 k0] w fun e w' => e = .returned (.int .i64 (k0 + 2 * n)) ∧ w'.ownsRow base 47 2 v n (marks k0 (n * 2)) ∧ w.grownBy w' v.ownBlock := by
  rcases hown.2 with ⟨rfl, rfl⟩ | ⟨g, cap, cur, rfl, _⟩
  · go_enter Tryd.func29, Tryd.ntmps29
    go_wp2_with fail
    go_loop [1, 5] (fun k i => k = .int .i64 k0 ∧ i = .int .i64 0) (fun _ _ => 0)
    case atStart => exact ⟨rfl, rfl⟩
    case round =>
      obtain ⟨rfl, rfl⟩ := hrel
      go_wp2_with fail
      go_ret
      exact ⟨ret_int (by simp), World.ownsRow_nil _ _ _ _, World.grownBy.refl w _⟩
  · exact markOddsS_own g n cap base k0 xs w h0 h1 hn hown
theorem heldOddsS_gen (v : Value) (n base : Nat) (k0 : Int) (w : World) (h0 : 0 ≤ k0) (h1 : k0 ≤ 1000000) (hn : n ≤ 1048576) (hown : w.ownsRow base 47 2 v n (marks k0 (n * 2))) :
    Calls Tryd.prog 31 #[v, .int .i64 k0] w fun e w' => e = .returned (.int .i64 (k0 + 2 * n)) ∧ w = w' := by
  rcases hown.2 with ⟨rfl, rfl⟩ | ⟨g, cap, cur, rfl, _⟩
  · go_enter Tryd.func31, Tryd.ntmps31
    go_wp2_with fail
    go_loop [1, 5] (fun k i => k = .int .i64 k0 ∧ i = .int .i64 0) (fun _ _ => 0)
    case atStart => exact ⟨rfl, rfl⟩
    case round =>
      obtain ⟨rfl, rfl⟩ := hrel
      go_wp2_with fail
      go_ret
      exact ⟨ret_int (by simp), rfl⟩
  · exact heldOddsS_own g n cap base k0 w h0 h1 hn hown

end Go.Proofs.YtgeophllbmjjfaaDoor
