/-
  Texts of words: words joined by a byte that is in none of them are split into the same words; a form filled with a name and numbers.
-/
import Derived.Lib.SplitLaws
import Derived.Lib.Join
import Derived.Lib.ItoaNum
import Derived.Test.YtgeophllbmjjfaaDoorHexB
namespace Go.Proofs.YtgeophllbmjjfaaDoor
open Go.RowKit

theorem index_pre (c : UInt8) : ∀ (x r : List UInt8), c ∉ x → Lib.index (x ++ c :: r) [c] = x.length
  | [], r, _ => by rw [List.nil_append, Lib.index]; simp [List.isPrefixOf]
  | b :: x, r, h => by
    have hb : b ≠ c := fun e => h (by simp [e])
    have ih := index_pre c x r (fun hc => h (List.mem_cons_of_mem _ hc))
    have hp : ([c] : List UInt8).isPrefixOf (b :: (x ++ c :: r)) = false := by simp [List.isPrefixOf, Ne.symm hb]
    have hm : ¬ ((x.length : Int) == -1) = true := fun e => by have := beq_iff_eq.1 e; omega
    rw [List.cons_append, Lib.index, hp, ih, if_neg (by decide), if_neg hm, List.length_cons]
    omega

theorem join_two (x y : List UInt8) (r : List (List UInt8)) (c : UInt8) : Lib.join (x :: y :: r) [c] = x ++ c :: Lib.join (y :: r) [c] := by
  rw [Lib.join_cons, Lib.join_cons]
  simp [Lib.joinTail]

theorem splitK_join (c : UInt8) : ∀ (r : List (List UInt8)) (x : List UInt8), (∀ y ∈ x :: r, c ∉ y) → Lib.splitK [c] 0 r.length (Lib.join (x :: r) [c]) = x :: r
  | [], x, _ => by rw [Lib.join_one]; rfl
  | y :: r, x, h => by
    have i := index_pre c x (Lib.join (y :: r) [c]) (h x (List.mem_cons_self ..))
    have ih := splitK_join c r y (fun z hz => h z (List.mem_cons_of_mem _ hz))
    have hm : ¬ ((x.length : Int) == -1) = true := fun e => by have := beq_iff_eq.1 e; omega
    rw [List.length_cons, Lib.splitK, join_two, i, if_neg hm]
    have e1 : (x ++ c :: Lib.join (y :: r) [c]).take (((x.length : Int).toNat) + 0) = x := by simp
    have e2 : (x ++ c :: Lib.join (y :: r) [c]).drop (((x.length : Int).toNat) + ([c] : List UInt8).length) = Lib.join (y :: r) [c] := by
      have e3 : x ++ c :: Lib.join (y :: r) [c] = (x ++ [c]) ++ Lib.join (y :: r) [c] := by simp
      rw [e3]
      exact List.drop_left' (by simp)
    rw [e1, e2, ih]

theorem count_join (c : UInt8) : ∀ (r : List (List UInt8)) (x : List UInt8), (∀ y ∈ x :: r, c ∉ y) → (Lib.join (x :: r) [c]).count c = r.length
  | [], x, h => by rw [Lib.join_one]; exact List.count_eq_zero.2 (h x (List.mem_cons_self ..))
  | y :: r, x, h => by
    have ih := count_join c r y (fun z hz => h z (List.mem_cons_of_mem _ hz))
    have h0 : x.count c = 0 := List.count_eq_zero.2 (h x (List.mem_cons_self ..))
    rw [join_two, List.count_append, h0, List.count_cons_self, ih, List.length_cons]
    omega

theorem splitB_join (c : UInt8) (s : ByteArray) (x : List UInt8) (r : List (List UInt8)) (e : s.data.toList = Lib.join (x :: r) [c]) (h : ∀ y ∈ x :: r, c ∉ y) :
    Lib.countB s ⟨#[c]⟩ = r.length ∧ (Lib.splitB ⟨#[c]⟩ 0 (Lib.countB s ⟨#[c]⟩) s).map (·.data.toList) = x :: r := by
  have e1 : Lib.countB s ⟨#[c]⟩ = r.length := by
    show Lib.count s.data.toList [c] = _
    rw [Lib.count_one, e, count_join c r x h]
  refine ⟨e1, ?_⟩
  rw [e1, Lib.splitB_data, e]
  exact splitK_join c r x h

/-- A form's words filled: NAME with a name, each N with the next number. -/
def fillW : List (List UInt8) → List UInt8 → List Int → List (List UInt8)
  | [], _, _ => []
  | w :: ws, nm, ns =>
    if w = [78, 65, 77, 69] then nm :: fillW ws nm ns
    else if w = [78] then Lib.itoa (ns.headD 0) :: fillW ws nm ns.tail
    else w :: fillW ws nm ns
def usedN (ws : List (List UInt8)) : Nat := ws.count [78]

theorem fillW_snoc (nm : List UInt8) (w : List UInt8) : ∀ (ws : List (List UInt8)) (ns : List Int), fillW (ws ++ [w]) nm ns = fillW ws nm ns ++ fillW [w] nm (ns.drop (usedN ws))
  | [], ns => by simp [fillW, usedN]
  | v :: ws, ns => by
    rw [List.cons_append, fillW, fillW]
    by_cases h1 : v = [78, 65, 77, 69]
    · subst h1
      rw [if_pos rfl, if_pos rfl, fillW_snoc nm w ws ns, List.cons_append]
      simp [usedN]
    · rw [if_neg h1, if_neg h1]
      by_cases h2 : v = [78]
      · subst h2
        rw [if_pos rfl, if_pos rfl, fillW_snoc nm w ws ns.tail, List.cons_append]
        have e : usedN ([78] :: ws) = usedN ws + 1 := by simp [usedN]
        rw [e, ← List.drop_one, List.drop_drop, Nat.add_comm 1]
      · rw [if_neg h2, if_neg h2, fillW_snoc nm w ws ns, List.cons_append]
        have e : usedN (v :: ws) = usedN ws := by simp [usedN, h2]
        rw [e]

theorem fillW_length (nm : List UInt8) : ∀ (ws : List (List UInt8)) (ns : List Int), (fillW ws nm ns).length = ws.length
  | [], _ => rfl
  | v :: ws, ns => by
    rw [fillW]
    split
    · rw [List.length_cons, List.length_cons, fillW_length nm ws]
    · split
      · rw [List.length_cons, List.length_cons, fillW_length nm ws]
      · rw [List.length_cons, List.length_cons, fillW_length nm ws]

theorem usedN_more {ws : List (List UInt8)} {q : Nat} {v : List UInt8} (h : ws[q]? = some v) : usedN (ws.take (q + 1)) = usedN (ws.take q) + if v = [78] then 1 else 0 := by
  rw [List.take_add_one, h]
  simp only [usedN, Option.toList_some, List.count_append, List.count_cons, List.count_nil]
  by_cases e : v = [78]
  · simp [e]
  · simp [e]

theorem fillW_more {ws : List (List UInt8)} {q : Nat} {v : List UInt8} (h : ws[q]? = some v) (nm : List UInt8) (ns : List Int) : fillW (ws.take (q + 1)) nm ns = fillW (ws.take q) nm ns ++ fillW [v] nm (ns.drop (usedN (ws.take q))) := by
  rw [List.take_add_one, h]
  exact fillW_snoc nm v _ ns

theorem usedN_le (ws : List (List UInt8)) (q : Nat) : usedN (ws.take q) ≤ usedN ws := List.Sublist.count_le _ (List.take_sublist ..)
theorem usedN_lt {ws : List (List UInt8)} {q : Nat} (h : ws[q]? = some [78]) : usedN (ws.take q) < usedN ws := by
  have h1 := usedN_more h
  have h2 := usedN_le ws (q + 1)
  rw [if_pos rfl] at h1
  omega

/-- The length of joined words, where each has at most k bytes. -/
theorem join_bound (c : UInt8) (k : Nat) : ∀ (ws : List (List UInt8)), (∀ w ∈ ws, w.length ≤ k) → (Lib.join ws [c]).length ≤ (k + 1) * ws.length
  | [], _ => by simp [Lib.join]
  | x :: r, h => by
    have h1 : Lib.lens (x :: r) ≤ k * (x :: r).length := by
      have : ∀ (l : List (List UInt8)), (∀ w ∈ l, w.length ≤ k) → Lib.lens l ≤ k * l.length := by
        intro l
        induction l with
        | nil => intro _; simp [Lib.lens]
        | cons y l ih =>
          intro hl
          have a := ih (fun w hw => hl w (List.mem_cons_of_mem _ hw))
          have b := hl y (List.mem_cons_self ..)
          have e : Lib.lens (y :: l) = y.length + Lib.lens l := by simp [Lib.lens]
          rw [e, List.length_cons, Nat.mul_add, Nat.mul_one]
          omega
      exact this _ h
    rw [Lib.join_length, Nat.add_mul, Nat.one_mul]
    simp only [List.length_cons, List.length_nil] at h1 ⊢
    omega

end Go.Proofs.YtgeophllbmjjfaaDoor
