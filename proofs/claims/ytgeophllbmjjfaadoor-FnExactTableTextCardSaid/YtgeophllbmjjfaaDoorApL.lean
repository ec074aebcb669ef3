/-
  Lists of numbers appended to a list that the call owns, whatever slice is appended (nil, empty or not): as an equation, as a step of a walk, as an operation of a drawn region. Nothing else that was there is changed.
-/
import Derived.Test.YtgeophllbmjjfaaDoorInts
import Derived.Maps.AppendAt
import Derived.Deep.Upon
import Derived.Deep.Cut
namespace Go.Proofs.YtgeophllbmjjfaaDoor
open Go.RowKit

theorem add_noneL (b off k : Nat) : (⟨b, off, none⟩ : Addr).add k = ⟨b, off + k, none⟩ := by
  unfold Addr.add
  split
  · rename_i h
    simp_all
  · rfl
theorem run_append_ints {w : World} {base : Nat} {v x : Value} {xs ys : List Int} (T : TypeId) (ho : OwnI w base v xs) (hx : RdI w x ys) (hl : xs.length + ys.length ≤ 1000000000000) (hb : base ≤ w.heap.size) :
    ∃ v' w', (Builtin.append_ #[50, 50] T #[v, x]).run Tryd.prog w = .ok v' w' ∧ OwnI w' base v' (xs ++ ys) ∧ w.grownBy w' v.ownBlock := by
  obtain ⟨j0, hj0, hz0, hs0, hb0⟩ := info_parts infoInt
  obtain ⟨A, c, rfl, hx⟩ := hx
  rcases Nat.eq_zero_or_pos ys.length with h0 | h0
  · obtain rfl : ys = [] := List.eq_nil_of_length_eq_zero h0
    have hsrc : Src Tryd.prog j0.size 50 (.slice A 0 c) 0 [] w := by
      cases A with
      | none => exact Src.ofNil w Tryd.underlying50 c
      | some a => exact Src.ofSlice w Tryd.underlying50 a 0 c [] (by simp) (by simp) (by simp)
    obtain ⟨B, n, cap, rfl, hle⟩ : ∃ B n cap, v = .slice B n cap ∧ n ≤ cap := by
      rcases ho.2 with ⟨rfl, hn⟩ | ⟨g, cap, cur, rfl, _, _, h, _⟩
      · exact ⟨none, 0, 0, rfl, Nat.le_refl _⟩
      · exact ⟨_, _, _, rfl, h⟩
    exact ⟨_, _, run_append_nothing w 50 50 T 3 j0 Tryd.underlying50 hj0 B n cap hle _ hsrc, by rw [List.append_nil]; exact ho, World.grownBy.refl w _⟩
  · obtain ⟨g, off, rfl, hc⟩ := hx h0
    obtain ⟨v', w', hr, h2, h3, _⟩ := run_append_own (P := Tryd.prog) (w := w) base 50 T 3 j0 (.int .i64 0) 1 8 Tryd.underlying50 hj0 hz0 hs0 hb0 rfl (by decide) v xs.length (cellsI xs) ho ⟨g, off, none⟩ ys.length c (cellsI ys) (by simp [cellsI])
      (fun j u hu => by
        simp only [cellsI, List.getElem?_map, Option.map_eq_some_iff] at hu
        obtain ⟨x, hx, rfl⟩ := hu
        rw [add_noneL]
        exact hc j x hx)
      (fun u hu => by
        simp only [cellsI, List.mem_map] at hu
        obtain ⟨x, _, rfl⟩ := hu
        rfl)
      (by simp only [maxLen]; omega) (by omega) hb
    refine ⟨v', w', hr, ?_, h3⟩
    unfold OwnI
    rw [List.length_append, show cellsI (xs ++ ys) = cellsI xs ++ cellsI ys by simp [cellsI]]
    exact h2

/-- At the operation, for the walk. -/
theorem wpList_append_ints {ops : Array Oper} {rest : List Oper} {o : Oper} {a : Act} {Q : Exit → Act → World → Prop} {w : World} (hgd : o.guard = none) (s x : Operand)
    (ho : o.op = .call { callee := .builtin .append, args := #[s, x], argTypes := #[50, 50] })
    (base : Nat) (v u : Value) (xs ys : List Int) (hs : a.eval s = v) (hx : a.eval x = u) (own : OwnI w base v xs) (rd : RdI w u ys) (hl : xs.length + ys.length ≤ 1000000000000) (hb : base ≤ w.heap.size)
    (h : ∀ v' w', OwnI w' base v' (xs ++ ys) → w.grownBy w' v.ownBlock → wpList Tryd.prog ops Q rest (a.put o.dst v') w') :
    wpList Tryd.prog ops Q (o :: rest) a w := by
  refine wpList_plain hgd fun K hK => ?_
  obtain ⟨v', w', hr, h2, h3⟩ := run_append_ints o.type own rd hl hb
  unfold Oper.wp execOp
  simp only [ho, resolve, invoke, builtin, Sem.run_bind, Sem.run_pure, Result.andThen_ok, List.map_toArray, List.map_cons, List.map_nil, hs, hx, hr]
  exact hK _ _ (h v' w' h2 h3)

/-- As one operation of a drawn region. -/
theorem step_append_ints {o : Oper} {a : Act} {w : World} {K : Act → World → Prop} {Q : Exit → Act → World → Prop} (s x : Operand)
    (ho : o.op = .call { callee := .builtin .append, args := #[s, x], argTypes := #[50, 50] })
    (base : Nat) (v u : Value) (xs ys : List Int) (hs : a.eval s = v) (hx : a.eval x = u) (own : OwnI w base v xs) (rd : RdI w u ys) (hl : xs.length + ys.length ≤ 1000000000000) (hb : base ≤ w.heap.size)
    (h : ∀ v' w', OwnI w' base v' (xs ++ ys) → w.grownBy w' v.ownBlock → K (a.put o.dst v') w') : Oper.wp Tryd.prog o a w K Q := by
  obtain ⟨v', w', hr, h2, h3⟩ := run_append_ints o.type own rd hl hb
  unfold Oper.wp execOp
  simp only [ho, resolve, invoke, builtin, Sem.run_bind, Sem.run_pure, Result.andThen_ok, List.map_toArray, List.map_cons, List.map_nil, hs, hx, hr]
  exact h v' w' h2 h3

/-- What has grown by a list's own row, made behind w0, leaves w0 as it was. -/
theorem Kp.appended {w0 w w' : World} {base : Nat} {v : Value} {l : List Int} (k : Kp w0 w) (own : OwnI w base v l) (hg : w.grownBy w' v.ownBlock) (hb : w0.heap.size ≤ base) : Kp w0 w' :=
  k.grown hg (fun g e => Nat.le_trans hb (World.ownsRow.lt own g e).1)

end Go.Proofs.YtgeophllbmjjfaaDoor
