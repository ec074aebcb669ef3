/-
  Mirrored maps as plain numbers and lists: the mirrored index and edge, an insertion into a rising list, and that inserting different numbers one by one is sorting them. No program is looked into.
-/
import Derived.Test.YtcdfbcmfpeceeaaDoorMapM
namespace Go.Proofs.YtcdfbcmfpeceeaaDoor
open Go.RowKit

/-- Insert a number into a rising list, unless it is there. -/
def putI : List Int → Int → List Int
  | [], n => [n]
  | x :: l, n => if x < n then x :: putI l n else if x = n then x :: l else n :: x :: l
theorem putI_mem : ∀ (l : List Int) (n y : Int), y ∈ putI l n ↔ y = n ∨ y ∈ l
  | [], n, y => by simp [putI]
  | x :: l, n, y => by
    unfold putI
    split
    · simp only [List.mem_cons, putI_mem l n y]
      constructor
      · rintro (h | h | h)
        · exact .inr (.inl h)
        · exact .inl h
        · exact .inr (.inr h)
      · rintro (h | h | h)
        · exact .inr (.inl h)
        · exact .inl h
        · exact .inr (.inr h)
    · split
      · rename_i h
        subst h
        simp
      · simp only [List.mem_cons]
theorem putI_perm : ∀ (l : List Int) (n : Int), n ∉ l → (putI l n).Perm (n :: l)
  | [], n, _ => .refl _
  | x :: l, n, h => by
    unfold putI
    simp only [List.mem_cons, not_or] at h
    split
    · exact ((putI_perm l n h.2).cons x).trans (.swap n x l)
    · rw [if_neg (fun e => h.1 e.symm)]
theorem putI_rise : ∀ (l : List Int) (n : Int), l.Pairwise (· < ·) → (putI l n).Pairwise (· < ·)
  | [], n, _ => by simp [putI]
  | x :: l, n, h => by
    unfold putI
    rw [List.pairwise_cons] at h
    split
    · rename_i hx
      rw [List.pairwise_cons]
      refine ⟨fun y hy => ?_, putI_rise l n h.2⟩
      rcases (putI_mem l n y).1 hy with rfl | hy
      · exact hx
      · exact h.1 y hy
    · split
      · rw [List.pairwise_cons]
        exact h
      · rename_i h1 h2
        rw [List.pairwise_cons, List.pairwise_cons]
        refine ⟨fun y hy => ?_, h⟩
        rcases List.mem_cons.1 hy with rfl | hy
        · omega
        · have := h.1 y hy
          omega

/-- All numbers of a list inserted, one by one. -/
def putAll (l : List Int) : List Int := l.foldl putI []
theorem foldl_put : ∀ (l acc : List Int), acc.Pairwise (· < ·) → l.Nodup → (∀ x ∈ l, x ∉ acc) → (l.foldl putI acc).Perm (l ++ acc) ∧ (l.foldl putI acc).Pairwise (· < ·)
  | [], acc, h, _, _ => ⟨.refl _, h⟩
  | x :: l, acc, h, hn, hd => by
    rw [List.nodup_cons] at hn
    have hx : x ∉ acc := hd x (List.mem_cons_self)
    obtain ⟨p, s⟩ := foldl_put l (putI acc x) (putI_rise acc x h) hn.2 (fun y hy hm => by
      rcases (putI_mem acc x y).1 hm with rfl | hm
      · exact hn.1 hy
      · exact hd y (List.mem_cons_of_mem _ hy) hm)
    refine ⟨?_, s⟩
    rw [List.foldl_cons]
    exact p.trans (((putI_perm acc x hx).append_left l).trans List.perm_middle)

theorem eq_of_rising : ∀ (a b : List Int), a.Perm b → a.Pairwise (· < ·) → b.Pairwise (· ≤ ·) → a = b
  | [], b, p, _, _ => (List.nil_perm.1 p).symm
  | x :: a, [], p, _, _ => absurd (List.perm_nil.1 p) (by simp)
  | x :: a, y :: b, p, ha, hb => by
    rw [List.pairwise_cons] at ha hb
    have hxy : x = y := by
      have hx : x ∈ y :: b := p.mem_iff.1 List.mem_cons_self
      have hy : y ∈ x :: a := p.mem_iff.2 List.mem_cons_self
      rcases List.mem_cons.1 hx with h | h
      · exact h
      · rcases List.mem_cons.1 hy with h' | h'
        · exact h'.symm
        · have h1 := hb.1 x h
          have h2 := ha.1 y h'
          omega
    subst hxy
    rw [eq_of_rising a b (List.Perm.cons_inv p) ha.2 hb.2]

theorem putAll_sort (l : List Int) (h : l.Nodup) : putAll l = l.mergeSort fun x y => decide (x ≤ y) := by
  obtain ⟨p, s⟩ := foldl_put l [] List.Pairwise.nil h (fun _ _ => by simp)
  rw [List.append_nil] at p
  refine eq_of_rising _ _ (p.trans (List.mergeSort_perm l _).symm) s ?_
  have := List.pairwise_mergeSort (le := fun x y : Int => decide (x ≤ y)) (by intro a b c h1 h2; simp at *; omega) (by intro a b; simp; omega) l
  exact this.imp (fun h => by simpa using h)

def mirI (W H i : Int) : Int := (i % W) * H + i / W
def mirE (W H e : Int) : Int := edgI H (mirI W H (e / 3)) (5 - e % 3)

theorem place_eq {A B A' B' H : Int} (h1 : 0 ≤ B) (h2 : B < H) (h3 : 0 ≤ B') (h4 : B' < H) (h : A * H + B = A' * H + B') : A = A' ∧ B = B' := by
  have e1 : (A * H + B) / H = A ∧ (A * H + B) % H = B := (Int.ediv_emod_unique (by omega)).2 ⟨by rw [Int.mul_comm]; omega, h1, h2⟩
  have e2 : (A' * H + B') / H = A' ∧ (A' * H + B') % H = B' := (Int.ediv_emod_unique (by omega)).2 ⟨by rw [Int.mul_comm]; omega, h3, h4⟩
  rw [h] at e1
  exact ⟨e1.1.symm.trans e2.1, e1.2.symm.trans e2.2⟩
theorem place_parts {A B H : Int} (h1 : 0 ≤ B) (h2 : B < H) : (A * H + B) / H = A ∧ (A * H + B) % H = B :=
  (Int.ediv_emod_unique (by omega)).2 ⟨by rw [Int.mul_comm]; omega, h1, h2⟩
theorem dir_mir {d : Int} (h0 : 0 ≤ d) (h2 : d ≤ 2) : dirQ (5 - d) = dirR d ∧ dirR (5 - d) = dirQ d := by
  rcases (show d = 0 ∨ d = 1 ∨ d = 2 by omega) with rfl | rfl | rfl <;> decide

/-- What an edge is, and what its mirror is. -/
theorem edge_parts {W H e : Int} (a : 1 ≤ W) (b : W ≤ 10) (h : edgeB W H e = true) :
    0 ≤ e ∧ (0 ≤ e / 3 % W ∧ e / 3 % W < W ∧ 0 ≤ e / 3 / W ∧ e / 3 / W < H) ∧ (0 ≤ e / 3 % W + dirQ (e % 3) ∧ e / 3 % W + dirQ (e % 3) < W ∧ 0 ≤ e / 3 / W + dirR (e % 3) ∧ e / 3 / W + dirR (e % 3) < H) ∧
    mirE W H e = 3 * ((e / 3 % W + dirQ (e % 3)) * H + (e / 3 / W + dirR (e % 3))) + (2 - e % 3) ∧ nbB H W (mirI W H (e / 3)) (5 - e % 3) = true := by
  have h0 : 0 ≤ e := by
    rcases Int.lt_or_le e 0 with hn | hn
    · rw [edgeB_neg hn] at h
      cases h
    · exact hn
  rw [edgeB_nat h0] at h
  simp only [nbB, Bool.and_eq_true] at h
  obtain ⟨hi, hd, hm⟩ := h
  obtain ⟨i0, i1⟩ := onI_true hi
  have hb := hex_bd a b i0 i1
  obtain ⟨m1, m2, m3, m4⟩ := inM_true hm
  unfold nbQ at m1 m2
  unfold nbR at m3 m4
  obtain ⟨d1, d2⟩ := dir_mir (d := e % 3) (by omega) (by omega)
  have pp := place_parts (A := e / 3 % W) (B := e / 3 / W) (H := H) hb.2.2.1 hb.2.2.2
  have eq1 : nbQ H (mirI W H (e / 3)) (5 - e % 3) = e / 3 / W + dirR (e % 3) := by
    unfold nbQ mirI
    rw [pp.2, d1]
  have eq2 : nbR H (mirI W H (e / 3)) (5 - e % 3) = e / 3 % W + dirQ (e % 3) := by
    unfold nbR mirI
    rw [pp.1, d2]
  have hin : inM H W (nbQ H (mirI W H (e / 3)) (5 - e % 3)) (nbR H (mirI W H (e / 3)) (5 - e % 3)) = true := by
    rw [eq1, eq2]
    exact inM_mk m3 m4 m1 m2
  have hon : onI H W (mirI W H (e / 3)) = true := by
    have := idx_bd (W := H) (H := W) (q := e / 3 / W) (r := e / 3 % W) (inM_mk hb.2.2.1 hb.2.2.2 hb.1 hb.2.1)
    unfold idxM at this
    unfold mirI
    exact onI_mk this.1 this.2
  refine ⟨h0, hb, ⟨m1, m2, m3, m4⟩, ?_, ?_⟩
  · unfold mirE edgI nbI
    rw [if_neg (by omega), eq1, eq2]
    unfold idxM
    omega
  · simp only [nbB, nbM, hin, hon, dirB_mk (show 0 ≤ 5 - e % 3 by omega) (show 5 - e % 3 ≤ 5 by omega), Bool.and_self]
theorem mirE_inj {W H e f : Int} (a : 1 ≤ W) (b : W ≤ 10) (he : edgeB W H e = true) (hf : edgeB W H f = true) (h : mirE W H e = mirE W H f) : e = f := by
  obtain ⟨e0, eb, em, ee, _⟩ := edge_parts a b he
  obtain ⟨f0, fb, fm, ff, _⟩ := edge_parts a b hf
  rw [ee, ff] at h
  have hd : e % 3 = f % 3 := by omega
  obtain ⟨h1, h2⟩ := place_eq em.2.2.1 em.2.2.2 fm.2.2.1 fm.2.2.2 (show (e / 3 % W + dirQ (e % 3)) * H + (e / 3 / W + dirR (e % 3)) = (f / 3 % W + dirQ (f % 3)) * H + (f / 3 / W + dirR (f % 3)) by omega)
  rw [hd] at h1 h2
  have q : e / 3 % W = f / 3 % W := by omega
  have r : e / 3 / W = f / 3 / W := by omega
  have de := Int.ediv_mul_add_emod (e / 3) W
  have df := Int.ediv_mul_add_emod (f / 3) W
  rw [q, r] at de
  omega
theorem rise_nodup : ∀ (p : Int) (l : List Int), riseFrom p l = true → (∀ x ∈ l, p < x) ∧ l.Nodup
  | _, [], _ => ⟨fun x h => (by cases h), List.nodup_nil⟩
  | p, x :: l, h => by
    simp only [riseFrom, Bool.and_eq_true, decide_eq_true_eq] at h
    obtain ⟨h1, h2⟩ := rise_nodup x l h.2
    refine ⟨fun y hy => ?_, ?_⟩
    · rcases List.mem_cons.1 hy with rfl | hy
      · exact h.1
      · have := h1 y hy
        omega
    · rw [List.nodup_cons]
      exact ⟨fun hx => (by have := h1 x hx; omega), h2⟩
/-- The mirrored edges of a valid list, sorted, are those inserted one by one. -/
theorem mir_list {W H : Int} {l : List Int} (a : 1 ≤ W) (b : W ≤ 10) (h : edgesOk W H l = true) : putAll (l.map (mirE W H)) = (l.map (mirE W H)).mergeSort fun x y => decide (x ≤ y) := by
  rw [edgesOk_eq, Bool.and_eq_true, List.all_eq_true] at h
  refine putAll_sort _ ?_
  have hn := (rise_nodup _ _ h.2).2
  rw [List.nodup_iff_pairwise_ne] at hn ⊢
  rw [List.pairwise_map]
  exact hn.imp_of_mem fun hx hy hne e => hne (mirE_inj a b (h.1 _ hx) (h.1 _ hy) e)

end Go.Proofs.YtcdfbcmfpeceeaaDoor
