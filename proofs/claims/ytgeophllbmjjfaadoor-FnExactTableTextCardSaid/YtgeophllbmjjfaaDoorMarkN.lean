/-
  Marking the cells of slices of integers that the call owns with k, k+1, .., and finding the marks again.
-/
import Derived.Test.YtgeophllbmjjfaaDoorInts
namespace Go.Proofs.YtgeophllbmjjfaaDoor
open Go.RowKit

theorem marks1_step (k0 : Int) (xs : List Value) (t n : Nat) (hl : xs.length = n * 1) (ht : t < n) :
    (marks k0 t ++ xs.drop t).set t (.int .i64 (k0 + t)) = marks k0 (t + 1) ++ xs.drop (t + 1) := by
  apply List.ext_getElem?
  intro j
  rw [List.getElem?_set]
  simp only [List.length_append, marks_length, List.length_drop]
  by_cases h1 : t = j
  · subst h1
    rw [if_pos rfl, if_pos (by omega), List.getElem?_append_left (by rw [marks_length]; omega), marks_at _ _ _ (by omega)]
  · rw [if_neg h1]
    by_cases h3 : j < t
    · rw [List.getElem?_append_left (by rw [marks_length]; omega), List.getElem?_append_left (by rw [marks_length]; omega), marks_at _ _ _ h3, marks_at _ _ _ (by omega)]
    · rw [List.getElem?_append_right (by rw [marks_length]; omega), List.getElem?_append_right (by rw [marks_length]; omega), marks_length, marks_length, List.getElem?_drop, List.getElem?_drop]
      congr 1
      omega

theorem markIntS_own (v : Value) (n base : Nat) (k0 : Int) (xs : List Value) (w : World) (h0 : 0 ≤ k0) (h1 : k0 ≤ 1000000000000000) (hn : n ≤ 1048576) (hown : w.ownsRow base 3 1 v n xs) :
    Calls Tryd.prog 58 #[v, .int .i64 k0] w fun e w' => e = .returned (.int .i64 (k0 + n)) ∧ w'.ownsRow base 3 1 v n (marks k0 n) ∧ w.grownBy w' v.ownBlock := by
  rcases hown.2 with ⟨rfl, rfl⟩ | ⟨g, cap, cur, rfl, _⟩
  · go_enter Tryd.func58, Tryd.ntmps58
    go_wp2_with fail
    go_loop [1, 5] (fun k i => k = .int .i64 k0 ∧ i = .int .i64 0) (fun _ _ => 0)
    case atStart => exact ⟨rfl, rfl⟩
    case round =>
      obtain ⟨rfl, rfl⟩ := hrel
      go_wp2_with fail
      go_ret
      exact ⟨ret_int (by simp), World.ownsRow_nil _ _ _ _, World.grownBy.refl w _⟩
  · have hl : xs.length = n * 1 := hown.1
    have HL := Lib.hid hl
    clear hl
    go_enter Tryd.func58, Tryd.ntmps58
    go_wp2_with fail
    go_loopw [1, 5] (fun kk i wr => ∃ t : Nat, t ≤ n ∧ i = .int .i64 t ∧ kk = .int .i64 (k0 + t) ∧ wr.ownsRow base 3 1 (.slice (some ⟨g, 0, none⟩) n cap) n (marks k0 t ++ xs.drop t) ∧ w.grownBy wr (some g)) (fun _ i _ => n - (intOf i).toNat)
    case atStart => exact ⟨0, by omega, rfl, by simp, by simpa [marks] using hown, World.grownBy.refl w _⟩
    case round =>
      obtain ⟨t, ht, rfl, rfl, ho, hg⟩ := hrel
      by_cases hlt : t < n
      · have hlt' : (t : Int) < n := by omega
        have hlen : (marks k0 t ++ xs.drop t).length = n * 1 := ho.1
        obtain ⟨u0, hu0⟩ : ∃ u, wr.cell? ⟨g, t, none⟩ = some u := ⟨_, (ho.cellAt t (by omega)).trans (List.getElem?_eq_getElem (by omega))⟩
        have f0 := ho.frozenAt t
        clear hlen
        go_wp2_with fail
        go_roundw
        case rel =>
          obtain ⟨o1, g1⟩ := ho.stored t (.int .i64 (k0 + t))
          refine ⟨t + 1, by omega, by go_num, by go_num, ?_, hg.trans g1⟩
          rw [← marks1_step k0 xs t n HL.out hlt]
          exact o1
        case measure => simp [intOf]; omega
      · obtain rfl : t = n := by omega
        go_wp2_with fail
        go_ret
        refine ⟨rfl, ?_, hg⟩
        have e : xs.drop t = [] := List.drop_of_length_le (by rw [HL.out]; omega)
        rw [e, List.append_nil] at ho
        exact ho

theorem heldIntS_own (v : Value) (n base : Nat) (k0 : Int) (w : World) (h0 : 0 ≤ k0) (h1 : k0 ≤ 1000000000000000) (hn : n ≤ 1048576) (hown : w.ownsRow base 3 1 v n (marks k0 n)) :
    Calls Tryd.prog 59 #[v, .int .i64 k0] w fun e w' => e = .returned (.int .i64 (k0 + n)) ∧ Kp w w' := by
  rcases hown.2 with ⟨rfl, rfl⟩ | ⟨g, cap, cur, rfl, _⟩
  · go_enter Tryd.func59, Tryd.ntmps59
    go_wp2_with fail
    go_loop [1, 5] (fun k i => k = .int .i64 k0 ∧ i = .int .i64 0) (fun _ _ => 0)
    case atStart => exact ⟨rfl, rfl⟩
    case round =>
      obtain ⟨rfl, rfl⟩ := hrel
      go_wp2_with fail
      go_ret
      exact ⟨ret_int (by simp), Kp.refl _⟩
  · go_enter Tryd.func59, Tryd.ntmps59
    go_wp2_with fail
    go_loopw [1, 5] (fun kk i wr => ∃ t : Nat, t ≤ n ∧ i = .int .i64 t ∧ kk = .int .i64 (k0 + t) ∧ Kp w wr) (fun _ i _ => n - (intOf i).toNat)
    case atStart => exact ⟨0, by omega, rfl, by simp, Kp.refl _⟩
    case round =>
      obtain ⟨t, ht, rfl, rfl, kr⟩ := hrel
      by_cases hlt : t < n
      · have hlt' : (t : Int) < n := by omega
        have c0 : wr.cell? ⟨g, t, none⟩ = some (.int .i64 (k0 + t)) := kr.cell ((hown.cellAt t (by omega)).trans (marks_at _ _ _ (by omega)))
        have hne : ((k0 + (t : Int)) != (k0 + (t : Int))) = false := by simp
        go_wp2_with fail
        go_roundw
        case rel => exact ⟨t + 1, by omega, by go_num, by go_num, kr⟩
        case measure => simp [intOf]; omega
      · obtain rfl : t = n := by omega
        go_wp2_with fail
        go_ret
        exact ⟨rfl, kr⟩

theorem OwnI.block' {w : World} {base : Nat} {v : Value} {l : List Int} (h : OwnI w base v l) (g : Nat) (hg : w.heap.size ≤ g) : v.ownBlock ≠ some g := fun e => by
  have := (World.ownsRow.lt h g e).2
  omega

theorem apart_ne {x y : Value} (h : ∀ g, x.ownBlock = some g → y.ownBlock ≠ some g) : y.ownBlock = none ∨ y.ownBlock ≠ x.ownBlock := by
  cases hy : y.ownBlock
  · exact .inl rfl
  · rename_i g
    exact .inr fun e => h g e.symm hy
theorem apart_sym {x y : Value} (h : ∀ g, x.ownBlock = some g → y.ownBlock ≠ some g) : ∀ g, y.ownBlock = some g → x.ownBlock ≠ some g := fun g hy hx => h g hx hy

end Go.Proofs.YtgeophllbmjjfaaDoor
