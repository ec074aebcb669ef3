/-
  Costs of steps and paths as plain numbers: what a step costs, the hexes of a path, the costs along it, how many first steps are within moves, the cheapest and the costliest step. No program is looked into.
-/
import Derived.Test.YtngifnnpimfimaaDoorQa
import Derived.Test.YtngifnnpimfimaaDoorQj
import Derived.Test.YtngifnnpimfimaaDoorQa
namespace Go.Proofs.YtngifnnpimfimaaDoor
open Go.RowKit

/-- What the weather adds along a road. -/
def wRd (tw : Int) : Int := if tw = 2 then 1 else 0
/-- The cost of a step from a hex in a direction, or 0. -/
def stp (l : List Ter) (lt lr ld : List Int) (W H rv rd : Int) (k : Nat) (tw i dd : Int) : Int :=
  if nbB W H i dd = true then
    if costB l lt k (nbI W i dd).toNat = 0 then 0
    else if hasB ld (edgI W i dd) = true then rd + wRd tw
    else costB l lt k (nbI W i dd).toNat + tw + (if hasB lr (edgI W i dd) = true then rv else 0)
  else 0
def wthB (tw : Int) : Bool := spB 0 2 tw
theorem wth_true {tw : Int} (h : wthB tw = true) : tw = 0 ∨ tw = 1 ∨ tw = 2 := by
  simp only [wthB, spB, Bool.and_eq_true, decide_eq_true_iff] at h
  omega
theorem wRd_bd (tw : Int) : 0 ≤ wRd tw ∧ wRd tw ≤ 1 := by unfold wRd; split <;> omega
theorem wRd_max {tw : Int} (h : tw = 0 ∨ tw = 1 ∨ tw = 2) : max (tw - 1) 0 = wRd tw := by
  rcases h with rfl | rfl | rfl <;> decide
theorem wRd_quo {tw : Int} (h : tw = 0 ∨ tw = 1 ∨ tw = 2) : tw.tdiv 2 = wRd tw := by
  rcases h with rfl | rfl | rfl <;> decide
theorem brd_lim {l : List Ter} {m : List Knd} {a b c d e W H : Int} {lt lr ld : List Int} (h : brdOk ⟨l, m, a, b, c, d, e⟩ W H lt lr ld = true) : (0 ≤ b ∧ b ≤ 9) ∧ (1 ≤ c ∧ c ≤ 9) := by
  have := brdOk_rul h
  simp only [rulOk, limB, spB, Bool.and_eq_true, decide_eq_true_iff] at this
  omega
theorem nb_at {W H i dd : Int} {n : Nat} (h : nbB W H i dd = true) (hn : (n : Int) = W * H) : ∃ j : Nat, nbI W i dd = j ∧ j < n := by
  obtain ⟨_, _, h1, h2⟩ := nbB_true h
  exact ⟨(nbI W i dd).toNat, by omega, by omega⟩
theorem nb_onI {W H i dd : Int} (h : nbB W H i dd = true) : onI W H (nbI W i dd) = true := by
  obtain ⟨_, _, h1, h2⟩ := nbB_true h
  exact onI_mk h1 h2
/-- Where a step leads, and what it costs: what is known. -/
theorem stp_no {l : List Ter} {lt lr ld : List Int} {W H rv rd : Int} {k : Nat} {tw i dd : Int} (h : nbB W H i dd = false) : stp l lt lr ld W H rv rd k tw i dd = 0 := by
  unfold stp; rw [h]; rfl
theorem stp_shut {l : List Ter} {lt lr ld : List Int} {W H rv rd : Int} {k : Nat} {tw i dd : Int} (h : nbB W H i dd = true) (hz : costB l lt k (nbI W i dd).toNat = 0) : stp l lt lr ld W H rv rd k tw i dd = 0 := by
  unfold stp; rw [if_pos h, if_pos hz]
theorem stp_open {l : List Ter} {lt lr ld : List Int} {W H rv rd : Int} {k : Nat} {tw i dd : Int} (h : nbB W H i dd = true) (hz : costB l lt k (nbI W i dd).toNat ≠ 0) :
    stp l lt lr ld W H rv rd k tw i dd = if hasB ld (edgI W i dd) = true then rd + wRd tw else costB l lt k (nbI W i dd).toNat + tw + (if hasB lr (edgI W i dd) = true then rv else 0) := by
  unfold stp; rw [if_pos h, if_neg hz]
theorem stp_bd {l : List Ter} {m : List Knd} {a b c d e W H : Int} {lt lr ld : List Int} {k : Nat} (hok : brdOk ⟨l, m, a, b, c, d, e⟩ W H lt lr ld = true) (hk : k < m.length) {tw : Int} (ht : tw = 0 ∨ tw = 1 ∨ tw = 2) (i dd : Int) :
    0 ≤ stp l lt lr ld W H b c k tw i dd ∧ stp l lt lr ld W H b c k tw i dd ≤ 20 := by
  obtain ⟨⟨b0, b1⟩, c0, c1⟩ := brd_lim hok
  cases hn : nbB W H i dd
  · rw [stp_no hn]; omega
  · obtain ⟨j, hj, hjl⟩ := nb_at hn (mapOk_len (brdOk_map hok))
    obtain ⟨_, _, z, _, _, _, _, _, h6, h7, h8⟩ := brd_hex hok hk hjl
    by_cases hz : costB l lt k (nbI W i dd).toNat = 0
    · rw [stp_shut hn hz]; omega
    · rw [stp_open hn hz]
      have := wRd_bd tw
      rw [hj, Int.toNat_natCast, h6]
      split
      · omega
      · split <;> omega
theorem stp_pos {l : List Ter} {m : List Knd} {a b c d e W H : Int} {lt lr ld : List Int} {k : Nat} (hok : brdOk ⟨l, m, a, b, c, d, e⟩ W H lt lr ld = true) (hk : k < m.length) {tw : Int} (ht : tw = 0 ∨ tw = 1 ∨ tw = 2) {i dd : Int} (hn : nbB W H i dd = true) (hz : costB l lt k (nbI W i dd).toNat ≠ 0) :
    0 < stp l lt lr ld W H b c k tw i dd := by
  obtain ⟨⟨b0, b1⟩, c0, c1⟩ := brd_lim hok
  obtain ⟨j, hj, hjl⟩ := nb_at hn (mapOk_len (brdOk_map hok))
  obtain ⟨_, _, z, _, _, _, _, _, h6, h7, h8⟩ := brd_hex hok hk hjl
  have hz' := hz
  rw [hj, Int.toNat_natCast, h6] at hz'
  rw [stp_open hn hz]
  have := wRd_bd tw
  rw [hj, Int.toNat_natCast, h6]
  split
  · omega
  · split <;> omega
/-- A step that costs something leads to a hex of the map. -/
theorem stp_nb {l : List Ter} {lt lr ld : List Int} {W H rv rd : Int} {k : Nat} {tw i dd : Int} (h : stp l lt lr ld W H rv rd k tw i dd ≠ 0) : nbB W H i dd = true := by
  cases hn : nbB W H i dd
  · exact absurd (stp_no hn) h
  · rfl

def sumL : List Int → Int
  | [] => 0
  | x :: l => x + sumL l
theorem sumL_app (a b : List Int) : sumL (a ++ b) = sumL a + sumL b := by
  induction a with
  | nil => simp [sumL]
  | cons x a ih => simp only [List.cons_append, sumL, ih]; omega
theorem sumL_one (x : Int) : sumL [x] = x := by simp [sumL]
theorem sumL_two (x y : Int) : sumL [x, y] = x + y := by simp [sumL]
theorem sumL_three (x y z : Int) : sumL [x, y, z] = x + (y + z) := by simp [sumL]
theorem sumL_bd {B : Int} (hB : 0 ≤ B) : ∀ (l : List Int), (∀ x ∈ l, 0 ≤ x ∧ x ≤ B) → 0 ≤ sumL l ∧ sumL l ≤ l.length * B
  | [], _ => by simp [sumL]
  | x :: l, h => by
    have h1 := h x (by simp)
    have h2 := sumL_bd hB l fun y hy => h y (by simp [hy])
    simp only [sumL, List.length_cons]
    have h3 : ((l.length + 1 : Nat) : Int) * B = l.length * B + B := by rw [Int.natCast_add, Int.add_mul]; omega
    omega
theorem sumL_take {l : List Int} {q : Nat} {x : Int} (h : l[q]? = some x) : sumL (l.take (q + 1)) = sumL (l.take q) + x := by
  rw [List.take_add_one, h, sumL_app]
  simp [sumL]
theorem take_bd {B : Int} {l : List Int} (h : ∀ x ∈ l, 0 ≤ x ∧ x ≤ B) (q : Nat) : ∀ x ∈ l.take q, 0 ≤ x ∧ x ≤ B := fun x hx => h x (List.mem_of_mem_take hx)

/-- The costs of the six directions, the first n of them. -/
def sixN (F : Int → Int) : Nat → List Int
  | 0 => []
  | n + 1 => sixN F n ++ [F n]
theorem sixN_len (F : Int → Int) : ∀ n, (sixN F n).length = n
  | 0 => rfl
  | n + 1 => by simp [sixN, sixN_len F n]
theorem sixN_at (F : Int → Int) : ∀ n (q : Nat), q < n → (sixN F n)[q]? = some (F q)
  | n + 1, q, h => by
    rcases Nat.lt_or_ge q n with h1 | h1
    · rw [sixN, List.getElem?_append_left (by rw [sixN_len]; exact h1)]
      exact sixN_at F n q h1
    · obtain rfl : q = n := by omega
      rw [sixN, List.getElem?_append_right (by rw [sixN_len]; omega), sixN_len]
      simp
theorem sixN_mem {F : Int → Int} {n : Nat} {x : Int} (h : x ∈ sixN F n) : ∃ q : Nat, q < n ∧ x = F q := by
  obtain ⟨q, hq, rfl⟩ := List.mem_iff_getElem.1 h
  rw [sixN_len] at hq
  have := sixN_at F n q hq
  rw [List.getElem?_eq_getElem (by rw [sixN_len]; exact hq)] at this
  exact ⟨q, hq, Option.some.inj this⟩
/-- The first q of a list of zeros have been written. -/
theorem sixN_put (F : Int → Int) (q n : Nat) (h : q < n) : ((sixN F q) ++ List.replicate (n - q) 0).set q (F q) = sixN F (q + 1) ++ List.replicate (n - (q + 1)) 0 := by
  obtain ⟨z, hz⟩ : ∃ z, n - q = z + 1 := ⟨n - q - 1, by omega⟩
  have hz2 : n - (q + 1) = z := by omega
  rw [hz, hz2, List.set_append_right _ _ (by rw [sixN_len]; omega), sixN_len, Nat.sub_self, List.replicate_succ]
  simp [sixN]

/-- The costs along a path, up to the first step that does not exist. -/
def cstP (F : Int → Int → Int) (W : Int) : Int → List Int → List Int
  | _, [] => []
  | i, x :: p => if F i x = 0 then [] else F i x :: cstP F W (nbI W i x) p
/-- Where a path leads, step after step. -/
def endP (W : Int) : Int → List Int → Int
  | i, [] => i
  | i, x :: p => endP W (nbI W i x) p
theorem endP_app (W : Int) : ∀ (p : List Int) (i x : Int), endP W i (p ++ [x]) = nbI W (endP W i p) x
  | [], _, _ => rfl
  | y :: p, i, x => by simp only [List.cons_append, endP]; exact endP_app W p _ x
theorem cstP_len (F : Int → Int → Int) (W : Int) : ∀ (p : List Int) (i : Int), (cstP F W i p).length ≤ p.length
  | [], _ => by simp [cstP]
  | x :: p, i => by
    unfold cstP
    split
    · simp
    · simp only [List.length_cons]
      have := cstP_len F W p (nbI W i x)
      omega
theorem cstP_bd {F : Int → Int → Int} {W B : Int} (h : ∀ i x, 0 ≤ F i x ∧ F i x ≤ B) : ∀ (p : List Int) (i : Int), ∀ y ∈ cstP F W i p, 0 ≤ y ∧ y ≤ B
  | [], _, y, hy => by simp [cstP] at hy
  | x :: p, i, y, hy => by
    unfold cstP at hy
    split at hy
    · simp at hy
    · rcases List.mem_cons.1 hy with rfl | hy
      · exact h i x
      · exact cstP_bd h p _ y hy
theorem cstP_pos {F : Int → Int → Int} {W : Int} (h : ∀ i x, 0 ≤ F i x) : ∀ (p : List Int) (i : Int), ∀ y ∈ cstP F W i p, 0 < y
  | [], _, y, hy => by simp [cstP] at hy
  | x :: p, i, y, hy => by
    unfold cstP at hy
    split at hy
    · simp at hy
    · rename_i hx
      rcases List.mem_cons.1 hy with rfl | hy
      · have := h i x; omega
      · exact cstP_pos h p _ y hy
/-- A path all of whose steps exist has as many costs, and the other way round. -/
theorem cstP_next {F : Int → Int → Int} {W : Int} : ∀ {p : List Int} {i : Int} {q : Nat} {x : Int}, (cstP F W i (p.take q)).length = q → p[q]? = some x → F (endP W i (p.take q)) x ≠ 0 → cstP F W i (p.take (q + 1)) = cstP F W i (p.take q) ++ [F (endP W i (p.take q)) x] ∧ (cstP F W i (p.take (q + 1))).length = q + 1
  | [], _, _, _, _, h, _ => by simp at h
  | y :: p, i, 0, x, _, h, hx => by
    simp only [List.getElem?_cons_zero, Option.some.injEq] at h
    subst h
    simp only [List.take_zero, endP] at hx
    simp [cstP, endP, hx]
  | y :: p, i, q + 1, x, hl, h, hx => by
    simp only [List.getElem?_cons_succ] at h
    simp only [List.take_succ_cons, endP] at hx ⊢
    have hy : F i y ≠ 0 := fun e => by simp [cstP, e] at hl
    simp only [List.take_succ_cons, cstP, if_neg hy, List.length_cons, Nat.add_right_cancel_iff] at hl ⊢
    obtain ⟨h1, h2⟩ := cstP_next hl h hx
    rw [h1] at h2 ⊢
    exact ⟨by simp, by simpa using h2⟩
theorem cstP_stop {F : Int → Int → Int} {W : Int} : ∀ {p : List Int} {i : Int} {q : Nat} {x : Int}, (cstP F W i (p.take q)).length = q → p[q]? = some x → F (endP W i (p.take q)) x = 0 → cstP F W i p = cstP F W i (p.take q)
  | [], _, _, _, _, h, _ => by simp at h
  | y :: p, i, 0, x, _, h, hx => by
    simp only [List.getElem?_cons_zero, Option.some.injEq] at h
    subst h
    simp only [List.take_zero, endP] at hx
    simp [cstP, hx]
  | y :: p, i, q + 1, x, hl, h, hx => by
    simp only [List.getElem?_cons_succ] at h
    simp only [List.take_succ_cons, endP] at hx ⊢
    have hy : F i y ≠ 0 := fun e => by simp [cstP, e] at hl
    simp only [List.take_succ_cons, cstP, if_neg hy, List.length_cons, Nat.add_right_cancel_iff] at hl ⊢
    rw [cstP_stop hl h hx]
theorem endP_next {W : Int} {p : List Int} {i : Int} {q : Nat} {x : Int} (h : p[q]? = some x) : endP W i (p.take (q + 1)) = nbI W (endP W i (p.take q)) x := by
  rw [List.take_add_one, h]
  exact endP_app W _ i x

/-- How many first costs are within moves. -/
def witN : Int → List Int → Nat
  | _, [] => 0
  | mv, x :: l => if mv < x then 0 else witN (mv - x) l + 1
theorem witN_len : ∀ (l : List Int) (mv : Int), witN mv l ≤ l.length
  | [], _ => by simp [witN]
  | x :: l, mv => by
    unfold witN
    split
    · omega
    · have := witN_len l (mv - x)
      simp only [List.length_cons]; omega
theorem witN_in : ∀ (l : List Int) (mv : Int), 0 ≤ mv → sumL (l.take (witN mv l)) ≤ mv
  | [], mv, h => by simp [witN, sumL, h]
  | x :: l, mv, h => by
    unfold witN
    split
    · simpa [sumL] using h
    · rw [List.take_succ_cons, sumL]
      have := witN_in l (mv - x) (by omega)
      omega
theorem witN_most : ∀ (l : List Int) (mv : Int) (n : Nat), (∀ x ∈ l, 0 ≤ x) → n ≤ l.length → sumL (l.take n) ≤ mv → n ≤ witN mv l
  | [], mv, n, _, h, _ => by simp at h; omega
  | x :: l, mv, 0, _, _, _ => by omega
  | x :: l, mv, n + 1, h0, h, hs => by
    rw [List.take_succ_cons, sumL] at hs
    have hl : ∀ y ∈ l, 0 ≤ y := fun y hy => h0 y (by simp [hy])
    have h1 : 0 ≤ sumL (l.take n) := by
      have : ∀ (L : List Int), (∀ y ∈ L, 0 ≤ y) → 0 ≤ sumL L := fun L => by
        induction L with
        | nil => intro _; simp [sumL]
        | cons z L ih => intro hz; have := hz z (by simp); have := ih fun y hy => hz y (by simp [hy]); simp only [sumL]; omega
      exact this _ fun y hy => hl y (List.mem_of_mem_take hy)
    unfold witN
    rw [if_neg (by omega)]
    have := witN_most l (mv - x) n hl (by simpa using h) (by omega)
    omega
theorem witN_eq {l : List Int} {mv : Int} {n : Nat} (h0 : ∀ x ∈ l, 0 < x) (_hm : 0 ≤ mv) (hn : witN mv l ≤ n) (hl : n ≤ l.length) (hs : sumL (l.take n) ≤ mv) : witN mv l = n := by
  have := witN_most l mv n (fun x hx => by have := h0 x hx; omega) hl hs
  omega

/-- The hexes of a path, and whether all of them are on the map. -/
def hexP (W : Int) : Int → List Int → List Int
  | _, [] => []
  | i, x :: p => nbI W i x :: hexP W (nbI W i x) p
def onP (W H : Int) : Int → List Int → Bool
  | _, [] => true
  | i, x :: p => nbB W H i x && onP W H (nbI W i x) p
theorem hexP_len (W : Int) : ∀ (p : List Int) (i : Int), (hexP W i p).length = p.length
  | [], _ => rfl
  | x :: p, i => by simp [hexP, hexP_len W p]
theorem hexP_next {W : Int} : ∀ {p : List Int} {i : Int} {q : Nat} {x : Int}, p[q]? = some x → hexP W i (p.take (q + 1)) = hexP W i (p.take q) ++ [nbI W (endP W i (p.take q)) x]
  | [], _, _, _, h => by simp at h
  | y :: p, i, 0, x, h => by
    simp only [List.getElem?_cons_zero, Option.some.injEq] at h
    subst h
    simp [hexP, endP]
  | y :: p, i, q + 1, x, h => by
    simp only [List.getElem?_cons_succ] at h
    simp only [List.take_succ_cons, hexP, endP, List.cons_append]
    rw [hexP_next h]
theorem onP_next {W H : Int} : ∀ {p : List Int} {i : Int} {q : Nat} {x : Int}, p[q]? = some x → onP W H i (p.take (q + 1)) = (onP W H i (p.take q) && nbB W H (endP W i (p.take q)) x)
  | [], _, _, _, h => by simp at h
  | y :: p, i, 0, x, h => by
    simp only [List.getElem?_cons_zero, Option.some.injEq] at h
    subst h
    simp [onP, endP]
  | y :: p, i, q + 1, x, h => by
    simp only [List.getElem?_cons_succ] at h
    simp only [List.take_succ_cons, onP, endP]
    rw [onP_next h, Bool.and_assoc]
theorem onP_stop {W H : Int} : ∀ {p : List Int} {i : Int} {q : Nat}, onP W H i (p.take q) = false → onP W H i p = false
  | [], _, _, h => by simpa using h
  | y :: p, i, 0, h => by simp [onP] at h
  | y :: p, i, q + 1, h => by
    simp only [List.take_succ_cons, onP, Bool.and_eq_false_iff] at h ⊢
    rcases h with h | h
    · exact Or.inl h
    · exact Or.inr (onP_stop h)
theorem hexP_last {W : Int} : ∀ {p : List Int} {i : Int}, p ≠ [] → (hexP W i p)[p.length - 1]? = some (endP W i p)
  | [], _, h => absurd rfl h
  | [x], i, _ => rfl
  | x :: y :: p, i, _ => by
    have := hexP_last (W := W) (p := y :: p) (i := nbI W i x) (by simp)
    simpa [hexP, endP] using this

/-- The first of the least costs that are not 0, as the program carries it: the direction and the cost. -/
def chpN (F : Int → Int) : Nat → Int × Int
  | 0 => (0, 0)
  | n + 1 => if 0 < F n ∧ ((chpN F n).2 = 0 ∨ F n < (chpN F n).2) then ((n : Int), F n) else chpN F n
theorem chpN_bd {F : Int → Int} {B : Int} (h : ∀ x, 0 ≤ F x ∧ F x ≤ B) : ∀ n, 0 ≤ (chpN F n).1 ∧ (chpN F n).1 ≤ n ∧ 0 ≤ (chpN F n).2
  | 0 => by simp [chpN]
  | n + 1 => by
    have := chpN_bd h n
    unfold chpN
    split
    · have := h n; simp only; omega
    · omega
theorem chpN_yes {F : Int → Int} {n : Nat} (h : 0 < F n ∧ ((chpN F n).2 = 0 ∨ F n < (chpN F n).2)) : chpN F (n + 1) = ((n : Int), F n) := by rw [chpN, if_pos h]
theorem chpN_no {F : Int → Int} {n : Nat} (h : ¬ (0 < F n ∧ ((chpN F n).2 = 0 ∨ F n < (chpN F n).2))) : chpN F (n + 1) = chpN F n := by rw [chpN, if_neg h]
/-- The cost that is carried is that of the direction. -/
theorem chpN_at {F : Int → Int} : ∀ n, (chpN F n).2 ≠ 0 → ∃ q : Nat, q < n ∧ (chpN F n).1 = q ∧ (chpN F n).2 = F q
  | 0, h => by simp [chpN] at h
  | n + 1, h => by
    unfold chpN at h ⊢
    split
    · exact ⟨n, by omega, rfl, rfl⟩
    · rename_i hn
      rw [if_neg hn] at h
      obtain ⟨q, h1, h2, h3⟩ := chpN_at n h
      exact ⟨q, by omega, h2, h3⟩
theorem chpN_zero {F : Int → Int} : ∀ n, (chpN F n).2 = 0 → (chpN F n).1 = 0
  | 0, _ => rfl
  | n + 1, h => by
    unfold chpN at h ⊢
    split
    · rename_i hn
      rw [if_pos hn] at h
      simp only at h
      omega
    · rename_i hn
      rw [if_neg hn] at h
      exact chpN_zero n h
/-- As the reference carries it: the direction, or -1. -/
def chpS (F : Int → Int) (n : Nat) : Int := if (chpN F n).2 = 0 then -1 else (chpN F n).1

/-- The greatest of the first n numbers and 0. -/
def mxN (G : Nat → Int) : Nat → Int
  | 0 => 0
  | n + 1 => max (mxN G n) (G n)
/-- The greatest of a list that starts with some number. -/
def mxL : Int → List Int → Int
  | a, [] => a
  | a, x :: l => mxL (max a x) l
theorem mxL_app : ∀ (p : List Int) (a x : Int), mxL a (p ++ [x]) = max (mxL a p) x
  | [], _, _ => rfl
  | y :: p, a, x => by simp only [List.cons_append, mxL]; exact mxL_app p _ x
theorem mxL_take {l : List Int} {q : Nat} {x a : Int} (h : l[q]? = some x) : mxL a (l.take (q + 1)) = max (mxL a (l.take q)) x := by
  rw [List.take_add_one, h]
  exact mxL_app _ a x
theorem mxL_max : ∀ (l : List Int) (a b : Int), mxL (max a b) l = max a (mxL b l)
  | [], _, _ => rfl
  | x :: l, a, b => by simp only [mxL]; rw [Int.max_assoc]; exact mxL_max l a (max b x)
theorem mxL_bd {B : Int} : ∀ (l : List Int) (a : Int), 0 ≤ a ∧ a ≤ B → (∀ x ∈ l, 0 ≤ x ∧ x ≤ B) → 0 ≤ mxL a l ∧ mxL a l ≤ B
  | [], _, h, _ => h
  | x :: l, a, h, hl => by
    have := hl x (by simp)
    exact mxL_bd l (max a x) (by omega) fun y hy => hl y (by simp [hy])

end Go.Proofs.YtngifnnpimfimaaDoor
