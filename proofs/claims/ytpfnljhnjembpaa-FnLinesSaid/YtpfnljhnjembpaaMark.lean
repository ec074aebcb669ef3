/-
  Marking the cells of a slice of hexes that the call owns with k, k+1, .., and finding the marks again.
-/
import Derived.Test.YtpfnljhnjembpaaRow
import Derived.Maps.AppendAt
namespace Go.Proofs.Ytpfnljhnjembpaa
open Go.RowKit

def marks (k0 : Int) (m : Nat) : List Value := (List.range m).map fun j : Nat => .int .i64 (k0 + (j : Int))
theorem marks_at (k0 : Int) (m j : Nat) (h : j < m) : (marks k0 m)[j]? = some (.int .i64 (k0 + j)) := by simp [marks, h]
theorem marks_length (k0 : Int) (m : Nat) : (marks k0 m).length = m := by simp [marks]

theorem marks_step (k0 : Int) (xs : List Value) (t n : Nat) (hl : xs.length = n * 2) (ht : t < n) :
    ((marks k0 (t * 2) ++ xs.drop (t * 2)).set (t * 2) (.int .i64 (k0 + (t * 2 : Nat)))).set (t * 2 + 1) (.int .i64 (k0 + (t * 2 + 1 : Nat))) = marks k0 ((t + 1) * 2) ++ xs.drop ((t + 1) * 2) := by
  apply List.ext_getElem?
  intro j
  rw [List.getElem?_set, List.getElem?_set]
  simp only [List.length_set, List.length_append, marks_length, List.length_drop]
  by_cases h1 : t * 2 + 1 = j
  · subst h1
    rw [if_pos rfl, if_pos (by omega), List.getElem?_append_left (by rw [marks_length]; omega), marks_at _ _ _ (by omega)]
  · rw [if_neg h1]
    by_cases h2 : t * 2 = j
    · subst h2
      rw [if_pos rfl, if_pos (by omega), List.getElem?_append_left (by rw [marks_length]; omega), marks_at _ _ _ (by omega)]
    · rw [if_neg h2]
      by_cases h3 : j < t * 2
      · rw [List.getElem?_append_left (by rw [marks_length]; omega), List.getElem?_append_left (by rw [marks_length]; omega), marks_at _ _ _ h3, marks_at _ _ _ (by omega)]
      · rw [List.getElem?_append_right (by rw [marks_length]; omega), List.getElem?_append_right (by rw [marks_length]; omega), marks_length, marks_length, List.getElem?_drop, List.getElem?_drop]
        congr 1
        omega

theorem markHexS_own (g n cap base : Nat) (k0 : Int) (xs : List Value) (w : World) (h0 : 0 ≤ k0) (h1 : k0 ≤ 1000000) (hn : n ≤ 1000000)
    (hown : w.ownsRow base 25 2 (.slice (some ⟨g, 0, none⟩) n cap) n xs) :
    Calls Try.prog 24 #[.slice (some ⟨g, 0, none⟩) n cap, .int .i64 k0] w fun e w' => e = .returned (.int .i64 (k0 + 2 * n)) ∧ w'.ownsRow base 25 2 (.slice (some ⟨g, 0, none⟩) n cap) n (marks k0 (n * 2)) ∧ w.grownBy w' (some g) := by
  have hl : xs.length = n * 2 := hown.1
  have HL := Lib.hid hl
  clear hl
  go_enter Try.func24, Try.ntmps24
  go_wp2_with fail
  go_loopw [1, 5] (fun kk i wr => ∃ t : Nat, t ≤ n ∧ i = .int .i64 t ∧ kk = .int .i64 (k0 + 2 * t) ∧ wr.ownsRow base 25 2 (.slice (some ⟨g, 0, none⟩) n cap) n (marks k0 (t * 2) ++ xs.drop (t * 2)) ∧ w.grownBy wr (some g)) (fun _ i _ => n - (intOf i).toNat)
  case atStart => exact ⟨0, by omega, rfl, by simp, by simpa [marks] using hown, World.grownBy.refl w _⟩
  case round =>
    obtain ⟨t, ht, rfl, rfl, ho, hg⟩ := hrel
    by_cases hlt : t < n
    · have hlt' : (t : Int) < n := by omega
      have hlen : (marks k0 (t * 2) ++ xs.drop (t * 2)).length = n * 2 := ho.1
      obtain ⟨u0, hu0⟩ : ∃ u, wr.cell? ⟨g, t * 2, none⟩ = some u := ⟨_, (ho.cellAt (t * 2) (by omega)).trans (List.getElem?_eq_getElem (by omega))⟩
      obtain ⟨u1, hu1⟩ : ∃ u, wr.cell? ⟨g, t * 2 + 1, none⟩ = some u := ⟨_, (ho.cellAt (t * 2 + 1) (by omega)).trans (List.getElem?_eq_getElem (by omega))⟩
      have f0 := ho.frozenAt (t * 2)
      have f1 := ho.frozenAt (t * 2 + 1)
      clear hlen
      go_wp2_with fail
      go_roundw
      case rel =>
        obtain ⟨o1, g1⟩ := ho.stored (t * 2) (.int .i64 (k0 + 2 * t))
        obtain ⟨o2, g2⟩ := o1.stored (t * 2 + 1) (.int .i64 (k0 + 2 * t + 1))
        refine ⟨t + 1, by omega, by go_num, by go_num, ?_, (hg.trans g1).trans g2⟩
        rw [← marks_step k0 xs t n HL.out hlt]
        have e1 : (k0 + 2 * (t : Int)) = k0 + (t * 2 : Nat) := by omega
        have e2 : (k0 + 2 * (t : Int) + 1) = k0 + (t * 2 + 1 : Nat) := by omega
        rw [← e1, ← e2]
        exact o2
      case measure => simp [intOf]; omega
    · obtain rfl : t = n := by omega
      go_wp2_with fail
      go_ret
      refine ⟨rfl, ?_, hg⟩
      have e : xs.drop (t * 2) = [] := List.drop_of_length_le (by rw [HL.out]; omega)
      rw [e, List.append_nil] at ho
      exact ho

theorem heldHexS_own (g n cap base : Nat) (k0 : Int) (w : World) (h0 : 0 ≤ k0) (h1 : k0 ≤ 1000000) (hn : n ≤ 1000000)
    (hown : w.ownsRow base 25 2 (.slice (some ⟨g, 0, none⟩) n cap) n (marks k0 (n * 2))) :
    Calls Try.prog 25 #[.slice (some ⟨g, 0, none⟩) n cap, .int .i64 k0] w fun e w' => e = .returned (.int .i64 (k0 + 2 * n)) ∧ w = w' := by
  go_enter Try.func25, Try.ntmps25
  go_wp2_with fail
  go_loop [1, 5] (fun kk i => ∃ t : Nat, t ≤ n ∧ i = .int .i64 t ∧ kk = .int .i64 (k0 + 2 * t)) (fun _ i => n - (intOf i).toNat)
  case atStart => exact ⟨0, by omega, rfl, by simp⟩
  case round =>
    obtain ⟨t, ht, rfl, rfl⟩ := hrel
    by_cases hlt : t < n
    · have hlt' : (t : Int) < n := by omega
      have e1 : (k0 + (t * 2 : Nat)) = (k0 + 2 * (t : Int)) := by omega
      have e2 : (k0 + (t * 2 + 1 : Nat)) = (k0 + 2 * (t : Int) + 1) := by omega
      have c0 : w.cell? ⟨g, t * 2, none⟩ = some (.int .i64 (k0 + 2 * t)) := by rw [← e1]; exact (hown.cellAt (t * 2) (by omega)).trans (marks_at _ _ _ (by omega))
      have c1 : w.cell? ⟨g, t * 2 + 1, none⟩ = some (.int .i64 (k0 + 2 * t + 1)) := by rw [← e2]; exact (hown.cellAt (t * 2 + 1) (by omega)).trans (marks_at _ _ _ (by omega))
      clear e1 e2
      go_wp2_with fail
      go_round
      case rel => exact ⟨t + 1, by omega, by go_num, by go_num⟩
      case measure => simp [intOf]; omega
    · obtain rfl : t = n := by omega
      go_wp2_with fail
      go_ret
      exact ⟨rfl, rfl⟩

/-- Marking whatever slice of hexes the call owns: nil too. -/
theorem markHexS_any (v : Value) (n base : Nat) (xs : List Value) (w : World) (hn : n ≤ 1000000) (hown : w.ownsRow base 25 2 v n xs) :
    Calls Try.prog 24 #[v, .int .i64 1] w fun e w' => e = .returned (.int .i64 (1 + 2 * n)) ∧ w'.ownsRow base 25 2 v n (marks 1 (n * 2)) ∧ w.grownBy w' v.ownBlock := by
  rcases hown.2 with ⟨rfl, rfl⟩ | ⟨g, cap, cur, rfl, _⟩
  · go_enter Try.func24, Try.ntmps24
    go_wp2_with fail
    go_loop [1, 5] (fun k i => k = .int .i64 1 ∧ i = .int .i64 0) (fun _ _ => 0)
    case atStart => exact ⟨rfl, rfl⟩
    case round =>
      obtain ⟨rfl, rfl⟩ := hrel
      go_wp2_with fail
      go_ret
      exact ⟨rfl, World.ownsRow_nil _ _ _ _, World.grownBy.refl w _⟩
  · exact markHexS_own g n cap base 1 xs w (by omega) (by omega) hn hown

theorem heldHexS_any (v : Value) (n base : Nat) (w : World) (hn : n ≤ 1000000) (hown : w.ownsRow base 25 2 v n (marks 1 (n * 2))) :
    Calls Try.prog 25 #[v, .int .i64 1] w fun e w' => e = .returned (.int .i64 (1 + 2 * n)) ∧ w = w' := by
  rcases hown.2 with ⟨rfl, rfl⟩ | ⟨g, cap, cur, rfl, _⟩
  · go_enter Try.func25, Try.ntmps25
    go_wp2_with fail
    go_loop [1, 5] (fun k i => k = .int .i64 1 ∧ i = .int .i64 0) (fun _ _ => 0)
    case atStart => exact ⟨rfl, rfl⟩
    case round =>
      obtain ⟨rfl, rfl⟩ := hrel
      go_wp2_with fail
      go_ret
      exact ⟨rfl, rfl⟩
  · exact heldHexS_own g n cap base 1 w (by omega) (by omega) hn hown
end Go.Proofs.Ytpfnljhnjembpaa
