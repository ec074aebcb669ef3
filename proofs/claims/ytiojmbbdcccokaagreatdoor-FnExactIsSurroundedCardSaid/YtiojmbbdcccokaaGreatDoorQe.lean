/-
  Texts of this seat in one module: MirM, BrdM, ListI, Name, NameB, SpanB.
-/
import Derived.Deep.RegionHeld3
import Derived.Test.YtiojmbbdcccokaaGreatDoorQa
import Derived.Test.YtiojmbbdcccokaaGreatDoorQb
import Derived.Test.YtiojmbbdcccokaaGreatDoorQd

/-
  Mirrored maps as plain numbers and lists: the mirrored index and edge, an insertion into a rising list, and that inserting different numbers one by one is sorting them. No program is looked into.
-/
namespace Go.Proofs.YtiojmbbdcccokaaGreatDoor
open Go.RowKit

/-- Insert a number into a rising list, unless it is there. -/
def putI : List Int → Int → List Int
  | [], n => [n]
  | x :: l, n => if x < n then x :: putI l n else if x = n then x :: l else n :: x :: l
theorem putI_mem : ∀ (l : List Int) (n y : Int), y ∈ putI l n ↔ y = n ∨ y ∈ l
  | [], n, y => by simp [putI]
  | x :: l, n, y => by
    unfold putI
    split
    · simp only [List.mem_cons, putI_mem l n y]
      constructor
      · rintro (h | h | h)
        · exact .inr (.inl h)
        · exact .inl h
        · exact .inr (.inr h)
      · rintro (h | h | h)
        · exact .inr (.inl h)
        · exact .inl h
        · exact .inr (.inr h)
    · split
      · rename_i h
        subst h
        simp
      · simp only [List.mem_cons]
theorem putI_perm : ∀ (l : List Int) (n : Int), n ∉ l → (putI l n).Perm (n :: l)
  | [], n, _ => .refl _
  | x :: l, n, h => by
    unfold putI
    simp only [List.mem_cons, not_or] at h
    split
    · exact ((putI_perm l n h.2).cons x).trans (.swap n x l)
    · rw [if_neg (fun e => h.1 e.symm)]
theorem putI_rise : ∀ (l : List Int) (n : Int), l.Pairwise (· < ·) → (putI l n).Pairwise (· < ·)
  | [], n, _ => by simp [putI]
  | x :: l, n, h => by
    unfold putI
    rw [List.pairwise_cons] at h
    split
    · rename_i hx
      rw [List.pairwise_cons]
      refine ⟨fun y hy => ?_, putI_rise l n h.2⟩
      rcases (putI_mem l n y).1 hy with rfl | hy
      · exact hx
      · exact h.1 y hy
    · split
      · rw [List.pairwise_cons]
        exact h
      · rename_i h1 h2
        rw [List.pairwise_cons, List.pairwise_cons]
        refine ⟨fun y hy => ?_, h⟩
        rcases List.mem_cons.1 hy with rfl | hy
        · omega
        · have := h.1 y hy
          omega

/-- All numbers of a list inserted, one by one. -/
def putAll (l : List Int) : List Int := l.foldl putI []
theorem foldl_put : ∀ (l acc : List Int), acc.Pairwise (· < ·) → l.Nodup → (∀ x ∈ l, x ∉ acc) → (l.foldl putI acc).Perm (l ++ acc) ∧ (l.foldl putI acc).Pairwise (· < ·)
  | [], acc, h, _, _ => ⟨.refl _, h⟩
  | x :: l, acc, h, hn, hd => by
    rw [List.nodup_cons] at hn
    have hx : x ∉ acc := hd x (List.mem_cons_self)
    obtain ⟨p, s⟩ := foldl_put l (putI acc x) (putI_rise acc x h) hn.2 (fun y hy hm => by
      rcases (putI_mem acc x y).1 hm with rfl | hm
      · exact hn.1 hy
      · exact hd y (List.mem_cons_of_mem _ hy) hm)
    refine ⟨?_, s⟩
    rw [List.foldl_cons]
    exact p.trans (((putI_perm acc x hx).append_left l).trans List.perm_middle)

theorem eq_of_rising : ∀ (a b : List Int), a.Perm b → a.Pairwise (· < ·) → b.Pairwise (· ≤ ·) → a = b
  | [], b, p, _, _ => (List.nil_perm.1 p).symm
  | x :: a, [], p, _, _ => absurd (List.perm_nil.1 p) (by simp)
  | x :: a, y :: b, p, ha, hb => by
    rw [List.pairwise_cons] at ha hb
    have hxy : x = y := by
      have hx : x ∈ y :: b := p.mem_iff.1 List.mem_cons_self
      have hy : y ∈ x :: a := p.mem_iff.2 List.mem_cons_self
      rcases List.mem_cons.1 hx with h | h
      · exact h
      · rcases List.mem_cons.1 hy with h' | h'
        · exact h'.symm
        · have h1 := hb.1 x h
          have h2 := ha.1 y h'
          omega
    subst hxy
    rw [eq_of_rising a b (List.Perm.cons_inv p) ha.2 hb.2]

theorem putAll_sort (l : List Int) (h : l.Nodup) : putAll l = l.mergeSort fun x y => decide (x ≤ y) := by
  obtain ⟨p, s⟩ := foldl_put l [] List.Pairwise.nil h (fun _ _ => by simp)
  rw [List.append_nil] at p
  refine eq_of_rising _ _ (p.trans (List.mergeSort_perm l _).symm) s ?_
  have := List.pairwise_mergeSort (le := fun x y : Int => decide (x ≤ y)) (by intro a b c h1 h2; simp at *; omega) (by intro a b; simp; omega) l
  exact this.imp (fun h => by simpa using h)

def mirI (W H i : Int) : Int := (i % W) * H + i / W
def mirE (W H e : Int) : Int := edgI H (mirI W H (e / 3)) (5 - e % 3)

theorem place_eq {A B A' B' H : Int} (h1 : 0 ≤ B) (h2 : B < H) (h3 : 0 ≤ B') (h4 : B' < H) (h : A * H + B = A' * H + B') : A = A' ∧ B = B' := by
  have e1 : (A * H + B) / H = A ∧ (A * H + B) % H = B := (Int.ediv_emod_unique (by omega)).2 ⟨by rw [Int.mul_comm]; omega, h1, h2⟩
  have e2 : (A' * H + B') / H = A' ∧ (A' * H + B') % H = B' := (Int.ediv_emod_unique (by omega)).2 ⟨by rw [Int.mul_comm]; omega, h3, h4⟩
  rw [h] at e1
  exact ⟨e1.1.symm.trans e2.1, e1.2.symm.trans e2.2⟩
theorem place_parts {A B H : Int} (h1 : 0 ≤ B) (h2 : B < H) : (A * H + B) / H = A ∧ (A * H + B) % H = B :=
  (Int.ediv_emod_unique (by omega)).2 ⟨by rw [Int.mul_comm]; omega, h1, h2⟩
theorem dir_mir {d : Int} (h0 : 0 ≤ d) (h2 : d ≤ 2) : dirQ (5 - d) = dirR d ∧ dirR (5 - d) = dirQ d := by
  rcases (show d = 0 ∨ d = 1 ∨ d = 2 by omega) with rfl | rfl | rfl <;> decide

/-- What an edge is, and what its mirror is. -/
theorem edge_parts {W H e : Int} (a : 1 ≤ W) (b : W ≤ 10) (h : edgeB W H e = true) :
    0 ≤ e ∧ (0 ≤ e / 3 % W ∧ e / 3 % W < W ∧ 0 ≤ e / 3 / W ∧ e / 3 / W < H) ∧ (0 ≤ e / 3 % W + dirQ (e % 3) ∧ e / 3 % W + dirQ (e % 3) < W ∧ 0 ≤ e / 3 / W + dirR (e % 3) ∧ e / 3 / W + dirR (e % 3) < H) ∧
    mirE W H e = 3 * ((e / 3 % W + dirQ (e % 3)) * H + (e / 3 / W + dirR (e % 3))) + (2 - e % 3) ∧ nbB H W (mirI W H (e / 3)) (5 - e % 3) = true := by
  have h0 : 0 ≤ e := by
    rcases Int.lt_or_le e 0 with hn | hn
    · rw [edgeB_neg hn] at h
      cases h
    · exact hn
  rw [edgeB_nat h0] at h
  simp only [nbB, Bool.and_eq_true] at h
  obtain ⟨hi, hd, hm⟩ := h
  obtain ⟨i0, i1⟩ := onI_true hi
  have hb := hex_bd a b i0 i1
  obtain ⟨m1, m2, m3, m4⟩ := inM_true hm
  unfold nbQ at m1 m2
  unfold nbR at m3 m4
  obtain ⟨d1, d2⟩ := dir_mir (d := e % 3) (by omega) (by omega)
  have pp := place_parts (A := e / 3 % W) (B := e / 3 / W) (H := H) hb.2.2.1 hb.2.2.2
  have eq1 : nbQ H (mirI W H (e / 3)) (5 - e % 3) = e / 3 / W + dirR (e % 3) := by
    unfold nbQ mirI
    rw [pp.2, d1]
  have eq2 : nbR H (mirI W H (e / 3)) (5 - e % 3) = e / 3 % W + dirQ (e % 3) := by
    unfold nbR mirI
    rw [pp.1, d2]
  have hin : inM H W (nbQ H (mirI W H (e / 3)) (5 - e % 3)) (nbR H (mirI W H (e / 3)) (5 - e % 3)) = true := by
    rw [eq1, eq2]
    exact inM_mk m3 m4 m1 m2
  have hon : onI H W (mirI W H (e / 3)) = true := by
    have := idx_bd (W := H) (H := W) (q := e / 3 / W) (r := e / 3 % W) (inM_mk hb.2.2.1 hb.2.2.2 hb.1 hb.2.1)
    unfold idxM at this
    unfold mirI
    exact onI_mk this.1 this.2
  refine ⟨h0, hb, ⟨m1, m2, m3, m4⟩, ?_, ?_⟩
  · unfold mirE edgI nbI
    rw [if_neg (by omega), eq1, eq2]
    unfold idxM
    omega
  · simp only [nbB, nbM, hin, hon, dirB_mk (show 0 ≤ 5 - e % 3 by omega) (show 5 - e % 3 ≤ 5 by omega), Bool.and_self]
theorem mirE_inj {W H e f : Int} (a : 1 ≤ W) (b : W ≤ 10) (he : edgeB W H e = true) (hf : edgeB W H f = true) (h : mirE W H e = mirE W H f) : e = f := by
  obtain ⟨e0, eb, em, ee, _⟩ := edge_parts a b he
  obtain ⟨f0, fb, fm, ff, _⟩ := edge_parts a b hf
  rw [ee, ff] at h
  have hd : e % 3 = f % 3 := by omega
  obtain ⟨h1, h2⟩ := place_eq em.2.2.1 em.2.2.2 fm.2.2.1 fm.2.2.2 (show (e / 3 % W + dirQ (e % 3)) * H + (e / 3 / W + dirR (e % 3)) = (f / 3 % W + dirQ (f % 3)) * H + (f / 3 / W + dirR (f % 3)) by omega)
  rw [hd] at h1 h2
  have q : e / 3 % W = f / 3 % W := by omega
  have r : e / 3 / W = f / 3 / W := by omega
  have de := Int.ediv_mul_add_emod (e / 3) W
  have df := Int.ediv_mul_add_emod (f / 3) W
  rw [q, r] at de
  omega
theorem rise_nodup : ∀ (p : Int) (l : List Int), riseFrom p l = true → (∀ x ∈ l, p < x) ∧ l.Nodup
  | _, [], _ => ⟨fun x h => (by cases h), List.nodup_nil⟩
  | p, x :: l, h => by
    simp only [riseFrom, Bool.and_eq_true, decide_eq_true_eq] at h
    obtain ⟨h1, h2⟩ := rise_nodup x l h.2
    refine ⟨fun y hy => ?_, ?_⟩
    · rcases List.mem_cons.1 hy with rfl | hy
      · exact h.1
      · have := h1 y hy
        omega
    · rw [List.nodup_cons]
      exact ⟨fun hx => (by have := h1 x hx; omega), h2⟩
/-- The mirrored edges of a valid list, sorted, are those inserted one by one. -/
theorem mir_list {W H : Int} {l : List Int} (a : 1 ≤ W) (b : W ≤ 10) (h : edgesOk W H l = true) : putAll (l.map (mirE W H)) = (l.map (mirE W H)).mergeSort fun x y => decide (x ≤ y) := by
  rw [edgesOk_eq, Bool.and_eq_true, List.all_eq_true] at h
  refine putAll_sort _ ?_
  have hn := (rise_nodup _ _ h.2).2
  rw [List.nodup_iff_pairwise_ne] at hn ⊢
  rw [List.pairwise_map]
  exact hn.imp_of_mem fun hx hy hne e => hne (mirE_inj a b (h.1 _ hx) (h.1 _ hy) e)

end Go.Proofs.YtiojmbbdcccokaaGreatDoor

/-
  Boards as plain data: when a board is valid, the cost to enter a hex, open hexes, unused and missing terrains, stuck kinds. No program is looked into.
-/
namespace Go.Proofs.YtiojmbbdcccokaaGreatDoor
open Go.RowKit

/-- The numbers below n with a property, rising. -/
def filN (f : Nat → Bool) : Nat → List Int
  | 0 => []
  | k + 1 => if f k then filN f k ++ [(k : Int)] else filN f k
theorem filN_yes {f : Nat → Bool} {k : Nat} (h : f k = true) : filN f (k + 1) = filN f k ++ [(k : Int)] := by rw [filN, h]; rfl
theorem filN_no {f : Nat → Bool} {k : Nat} (h : f k = false) : filN f (k + 1) = filN f k := by rw [filN, h]; rfl
theorem filN_len (f : Nat → Bool) : ∀ k, (filN f k).length ≤ k
  | 0 => by simp [filN]
  | k + 1 => by
    have := filN_len f k
    cases h : f k
    · rw [filN_no h]; omega
    · rw [filN_yes h, List.length_append]; simp; omega
theorem filN_mem (f : Nat → Bool) : ∀ k (x : Int), x ∈ filN f k ↔ ∃ j : Nat, j < k ∧ x = j ∧ f j = true
  | 0, x => by simp [filN]
  | k + 1, x => by
    cases h : f k
    · rw [filN_no h, filN_mem f k x]
      constructor
      · rintro ⟨j, hj, e, hf⟩; exact ⟨j, by omega, e, hf⟩
      · rintro ⟨j, hj, e, hf⟩
        rcases Nat.lt_or_ge j k with h1 | h1
        · exact ⟨j, h1, e, hf⟩
        · obtain rfl : j = k := by omega
          rw [h] at hf; cases hf
    · rw [filN_yes h, List.mem_append, filN_mem f k x, List.mem_singleton]
      constructor
      · rintro (⟨j, hj, e, hf⟩ | rfl)
        · exact ⟨j, by omega, e, hf⟩
        · exact ⟨k, by omega, rfl, h⟩
      · rintro ⟨j, hj, e, hf⟩
        rcases Nat.lt_or_ge j k with h1 | h1
        · exact .inl ⟨j, h1, e, hf⟩
        · obtain rfl : j = k := by omega
          exact .inr e
theorem filN_rise (f : Nat → Bool) : ∀ k, (filN f k).Pairwise (· < ·)
  | 0 => by simp [filN]
  | k + 1 => by
    cases h : f k
    · rw [filN_no h]; exact filN_rise f k
    · rw [filN_yes h, List.pairwise_append]
      refine ⟨filN_rise f k, by simp, fun x hx y hy => ?_⟩
      obtain ⟨j, hj, e, _⟩ := (filN_mem f k x).1 hx
      rw [List.mem_singleton] at hy
      omega
theorem filN_cong {f g : Nat → Bool} : ∀ k, (∀ j, j < k → f j = g j) → filN f k = filN g k
  | 0, _ => rfl
  | k + 1, h => by
    have h1 := filN_cong k (fun j hj => h j (by omega))
    have h2 := h k (by omega)
    rw [filN, filN, h1, h2]

/-- What a terrain costs a kind. -/
def costT (l : List Ter) (t k : Nat) : Int := (((l[t]?).map (·.cost)).getD [])[k]?.getD 0
/-- What a hex costs a kind. -/
def costB (l : List Ter) (lt : List Int) (k i : Nat) : Int := costT l (lt[i]?.getD 0).toNat k
def opnB (l : List Ter) (lt : List Int) (k i : Nat) : Bool := decide (0 < costB l lt k i)
def opnL (l : List Ter) (lt : List Int) (k n : Nat) : List Int := filN (opnB l lt k) n
def unuB (lt : List Int) (n : Nat) : Bool := !hasB lt n
def unuL (lt : List Int) (nt : Nat) : List Int := filN (unuB lt) nt
def misB (lt : List Int) (nt n : Nat) : Bool := decide (nt ≤ n) && hasB lt n
def misL (lt : List Int) (nt : Nat) : List Int := filN (misB lt nt) 6

/-- A valid board. -/
def brdOk (r : Rul) (W H : Int) (lt lr ld : List Int) : Bool := (rulOk r && mapOk W H lt lr ld) && lt.all (spB 0 (r.ters.length - 1))

theorem hasB_iff (l : List Int) (m : Int) : hasB l m = true ↔ m ∈ l := by simp [hasB]
theorem mapOk_terr {W H : Int} {lt lr ld : List Int} (h : mapOk W H lt lr ld = true) : ∀ x ∈ lt, 0 ≤ x ∧ x ≤ 5 := by
  simp only [mapOk, Bool.and_eq_true, List.all_eq_true] at h
  intro x hx
  have := h.2.2.2.1 x hx
  simpa [terrB] using this
theorem misL_nil {lt : List Int} {nt : Nat} (hb : ∀ x ∈ lt, 0 ≤ x ∧ x ≤ 5) : decide (misL lt nt = []) = lt.all (spB 0 ((nt : Int) - 1)) := by
  rw [Bool.eq_iff_iff, decide_eq_true_iff, List.all_eq_true]
  constructor
  · intro h x hx
    have hbx := hb x hx
    simp only [spB, Bool.and_eq_true, decide_eq_true_iff]
    refine ⟨hbx.1, ?_⟩
    by_cases hlt : x ≤ (nt : Int) - 1
    · exact hlt
    · have : x ∈ misL lt nt := (filN_mem _ _ _).2 ⟨x.toNat, by omega, by omega, by
        simp only [misB, Bool.and_eq_true, decide_eq_true_iff]
        refine ⟨by omega, (hasB_iff _ _).2 ?_⟩
        have e : ((x.toNat : Nat) : Int) = x := by omega
        rw [e]; exact hx⟩
      rw [h] at this
      cases this
  · intro h
    rw [List.eq_nil_iff_forall_not_mem]
    intro x hx
    obtain ⟨j, hj, rfl, hm⟩ := (filN_mem _ _ _).1 hx
    simp only [misB, Bool.and_eq_true, decide_eq_true_iff] at hm
    have := h _ ((hasB_iff _ _).1 hm.2)
    simp only [spB, Bool.and_eq_true, decide_eq_true_iff] at this
    omega

/-- The terrains of a map that are not less than nt, put one by one. -/
def misS (nt : Nat) : List Int → List Int → List Int
  | acc, [] => acc
  | acc, t :: l => misS nt (if (nt : Int) ≤ t then putI acc t else acc) l
theorem misS_mem (nt : Nat) : ∀ (l acc : List Int) (y : Int), y ∈ misS nt acc l ↔ (y ∈ acc ∨ (y ∈ l ∧ (nt : Int) ≤ y))
  | [], acc, y => by simp [misS]
  | t :: l, acc, y => by
    rw [misS, misS_mem nt l]
    split
    · rw [putI_mem]
      constructor
      · rintro ((rfl | h) | ⟨h, h'⟩)
        · exact .inr ⟨by simp, by assumption⟩
        · exact .inl h
        · exact .inr ⟨by simp [h], h'⟩
      · rintro (h | ⟨h, h'⟩)
        · exact .inl (.inr h)
        · rcases List.mem_cons.1 h with rfl | h
          · exact .inl (.inl rfl)
          · exact .inr ⟨h, h'⟩
    · constructor
      · rintro (h | ⟨h, h'⟩)
        · exact .inl h
        · exact .inr ⟨by simp [h], h'⟩
      · rintro (h | ⟨h, h'⟩)
        · exact .inl h
        · rcases List.mem_cons.1 h with rfl | h
          · exact absurd h' (by assumption)
          · exact .inr ⟨h, h'⟩
theorem misS_rise (nt : Nat) : ∀ (l acc : List Int), acc.Pairwise (· < ·) → (misS nt acc l).Pairwise (· < ·)
  | [], acc, h => h
  | t :: l, acc, h => by
    rw [misS]
    apply misS_rise nt l
    split
    · exact putI_rise _ _ h
    · exact h
theorem rising_ext : ∀ (a b : List Int), a.Pairwise (· < ·) → b.Pairwise (· < ·) → (∀ x, x ∈ a ↔ x ∈ b) → a = b
  | [], [], _, _, _ => rfl
  | [], y :: b, _, _, h => absurd ((h y).2 (by simp)) (by simp)
  | x :: a, [], _, _, h => absurd ((h x).1 (by simp)) (by simp)
  | x :: a, y :: b, ha, hb, h => by
    rw [List.pairwise_cons] at ha hb
    have hxy : x = y := by
      have h1 : x = y ∨ x ∈ b := by simpa using (h x).1 (by simp)
      have h2 : y = x ∨ y ∈ a := by simpa using (h y).2 (by simp)
      rcases h1 with h1 | h1
      · exact h1
      · rcases h2 with h2 | h2
        · exact h2.symm
        · have := ha.1 y h2
          have := hb.1 x h1
          omega
    subst hxy
    congr 1
    refine rising_ext a b ha.2 hb.2 fun z => ?_
    have hz := h z
    simp only [List.mem_cons] at hz
    constructor
    · intro hza
      rcases hz.1 (.inr hza) with rfl | hzb
      · have := ha.1 z hza; omega
      · exact hzb
    · intro hzb
      rcases hz.2 (.inr hzb) with rfl | hza
      · have := hb.1 z hzb; omega
      · exact hza
theorem misS_eq {lt : List Int} {nt : Nat} (hb : ∀ x ∈ lt, 0 ≤ x ∧ x ≤ 5) : misS nt [] lt = misL lt nt := by
  refine rising_ext _ _ (misS_rise nt lt [] List.Pairwise.nil) (filN_rise _ _) fun x => ?_
  rw [misS_mem]
  unfold misL
  rw [filN_mem]
  constructor
  · rintro (h | ⟨h, h'⟩)
    · cases h
    · have := hb x h
      refine ⟨x.toNat, by omega, by omega, ?_⟩
      simp only [misB, Bool.and_eq_true, decide_eq_true_iff]
      have e : ((x.toNat : Nat) : Int) = x := by omega
      exact ⟨by omega, (hasB_iff _ _).2 (by rw [e]; exact h)⟩
  · rintro ⟨j, hj, rfl, hm⟩
    simp only [misB, Bool.and_eq_true, decide_eq_true_iff] at hm
    exact .inr ⟨(hasB_iff _ _).1 hm.2, by omega⟩

end Go.Proofs.YtiojmbbdcccokaaGreatDoor

/-
  New lists of numbers: none, one more; a call's answer that is a list and whether there is one.
-/
namespace Go.Proofs.YtiojmbbdcccokaaGreatDoor
open Go.RowKit

/-- A new list of numbers and true, or none and false. -/
def ListPostI (ok : Bool) (l : List Int) (w : World) (e : Ending) (w' : World) : Prop :=
  ∃ v, e = .returned (.tuple #[v, .bool ok]) ∧ OwnI w' w.heap.size v (if ok = true then l else []) ∧ Kp w w'
theorem OwnI.nil (w : World) (base : Nat) : OwnI w base (.slice none 0 0) [] := World.ownsRow_nil w base _ 1
theorem ListPostI.no {l : List Int} {w w' : World} (hk : Kp w w') : ListPostI false l w (.returned (.tuple #[.slice none 0 0, .bool false])) w' := ⟨_, rfl, OwnI.nil _ _, hk⟩
theorem OwnI.snoc {w : World} {base : Nat} {v : Value} {l : List Int} {x : Int} (h : w.ownsRow base 3 1 v (l.length + 1) (cellsI l ++ [.int .i64 x])) : OwnI w base v (l ++ [x]) := by
  unfold OwnI cellsI
  rw [List.map_append, List.length_append]
  exact h
theorem one_cell (w : World) (x : Value) (t : TypeId) : ∀ j u, [x][j]? = some u → (w.alloc (.cells #[x] t)).cell? ((⟨w.heap.size, 0, none⟩ : Addr).add j) = some u := by
  intro j u hj
  match j, hj with
  | 0, hj => simp at hj; subst hj; simp [Addr.add]

end Go.Proofs.YtiojmbbdcccokaaGreatDoor

/-
  Names, the program's test and the reference's; slices of strings as lists: places of a string, whether it is there, and whether all names are valid and differ. Nothing that was there is changed.
-/
namespace Go.Proofs.YtiojmbbdcccokaaGreatDoor
open Go.RowKit

theorem low_step {s : ByteArray} {k : Nat} (h : k < s.size) : s.data.toList.drop k = s[k] :: s.data.toList.drop (k + 1) := by
  rw [List.drop_eq_getElem_cons (by simpa using h)]
  rfl
theorem low_no {c : UInt8} {l : List UInt8} (h : lowB c = false) : lowFrom (c :: l) = false := by simp [lowFrom, h]
theorem low_go {c : UInt8} {l : List UInt8} (h : lowB c = true) : lowFrom (c :: l) = lowFrom l := by simp [lowFrom, h]

set_option maxHeartbeats 400000 in
theorem isName_any (s : ByteArray) (w : World) :
    Calls Tryz.prog 149 #[.string s] w fun e w' => e = .returned (.bool (nameOk s)) ∧ w = w' := by
  by_cases h0 : s.size = 0
  · have e : nameOk s = false := by simp [nameOk, spB, h0]
    rw [e]
    have h1 : s.toList = [] := by rw [ByteArray.toList_eq]; exact List.eq_nil_of_length_eq_zero (by simpa using h0)
    have h2 : s = ByteArray.empty := ByteArray.ext (Array.toList_inj.1 (by rw [ByteArray.toList_eq] at h1; rw [h1]; rfl))
    subst h2
    clear h0 h1 e
    go_enter Tryz.func149, Tryz.ntmps149
    go_wp2
    go_ret
    exact ⟨rfl, rfl⟩
  · by_cases h8 : 8 < s.size
    · have e : nameOk s = false := by simp [nameOk, spB]; omega
      rw [e]
      have hz : ((s.size : Int) == 0) = false := by simpa using h0
      clear e h0
      go_enter Tryz.func149, Tryz.ntmps149
      go_wp2
      go_ret
      exact ⟨rfl, rfl⟩
    · have e : nameOk s = lowFrom s.data.toList := by
        have : spB 1 8 s.size = true := by simp [spB]; omega
        simp [nameOk, this]
      rw [e]
      obtain ⟨R, hR⟩ : ∃ R, R = lowFrom s.data.toList := ⟨_, rfl⟩
      rw [← hR]
      have HR := Lib.hid hR
      have hz : ((s.size : Int) == 0) = false := by simpa using h0
      have h8' : decide (8 < s.size) = false := by simpa using h8
      clear e hR h0
      go_enter Tryz.func149, Tryz.ntmps149
      go_wp2
      go_loop [3, 14] (fun _ i => ∃ k : Nat, k ≤ s.size ∧ i = .int .i64 k ∧ Hid (lowFrom (s.data.toList.drop k) = R)) (fun _ i => s.size - (intOf i).toNat)
      case atStart => exact ⟨0, by omega, rfl, Lib.hid HR.out.symm⟩
      case round =>
        obtain ⟨k, hk, rfl, hE⟩ := hrel
        by_cases hlt : k < s.size
        · have HX := Lib.hid (low_step hlt)
          cases hok : lowB s[k]
          · have HE2 : Hid (R = false) := Lib.hid (by rw [← hE.out, HX.out]; exact low_no hok)
            have hd : s[k].toNat < 97 ∨ 122 < s[k].toNat := by simp [lowB] at hok; omega
            clear hok
            rcases hd with hd | hd
            · go_wp2
              go_ret
              exact ⟨ret_bool HE2.out.symm, rfl⟩
            · have hd2 : ¬ s[k].toNat < 97 := by omega
              go_wp2
              go_ret
              exact ⟨ret_bool HE2.out.symm, rfl⟩
          · have HE2 : Hid (lowFrom (s.data.toList.drop (k + 1)) = R) := Lib.hid (by rw [← hE.out, HX.out]; exact (low_go hok).symm)
            have hd : ¬ s[k].toNat < 97 ∧ ¬ 122 < s[k].toNat := by simp [lowB] at hok; omega
            obtain ⟨hd1, hd2⟩ := hd
            clear hok
            go_wp2
            go_round
            case rel => exact ⟨k + 1, by omega, by go_num, HE2⟩
            case measure => simp [intOf]; omega
        · obtain rfl : k = s.size := by omega
          go_wp2
          go_ret
          refine ⟨ret_bool ?_, rfl⟩
          rw [← hE.out, List.drop_of_length_le (by simp)]
          rfl

end Go.Proofs.YtiojmbbdcccokaaGreatDoor

/-
  The reference's test of a name; slices of strings as lists: the place of a string, whether it is there, and whether all names are valid and differ. Nothing that was there is changed.
-/
namespace Go.Proofs.YtiojmbbdcccokaaGreatDoor
open Go.RowKit

set_option maxHeartbeats 400000 in
theorem rName_any (s : ByteArray) (w : World) (hs : s.size ≤ 1048576) :
    Calls Tryz.prog 114 #[.string s] w fun e w' => e = .returned (.bool (nameOk s)) ∧ w = w' := by
  obtain ⟨R, hR⟩ : ∃ R, R = lowFrom s.data.toList := ⟨_, rfl⟩
  have e : nameOk s = (spB 1 8 s.size && R) := by rw [hR]; rfl
  rw [e]
  have HR := Lib.hid hR
  clear e hR
  go_enter Tryz.func114, Tryz.ntmps114
  go_wp2_with fail
  go_loop [3] (fun i => ∃ k : Nat, k ≤ s.size ∧ i = .int .i64 k ∧ Hid (lowFrom (s.data.toList.drop k) = R)) (fun i => s.size - (intOf i).toNat)
  case atStart => exact ⟨0, by omega, rfl, Lib.hid HR.out.symm⟩
  case round =>
    obtain ⟨k, hk, rfl, hE⟩ := hrel
    by_cases hlt : k < s.size
    · have HX := Lib.hid (low_step hlt)
      cases hok : lowB s[k]
      · have HE2 : Hid (R = false) := Lib.hid (by rw [← hE.out, HX.out]; exact low_no hok)
        have hd : s[k].toNat < 97 ∨ 122 < s[k].toNat := by simp [lowB] at hok; omega
        clear hok
        rcases hd with hd | hd
        · go_wp2_with fail
          go_ret
          exact ⟨ret_bool (by rw [HE2.out, Bool.and_false]), rfl⟩
        · have hd2 : ¬ s[k].toNat < 97 := by omega
          go_wp2_with fail
          go_ret
          exact ⟨ret_bool (by rw [HE2.out, Bool.and_false]), rfl⟩
      · have HE2 : Hid (lowFrom (s.data.toList.drop (k + 1)) = R) := Lib.hid (by rw [← hE.out, HX.out]; exact (low_go hok).symm)
        have hd : ¬ s[k].toNat < 97 ∧ ¬ 122 < s[k].toNat := by simp [lowB] at hok; omega
        obtain ⟨hd1, hd2⟩ := hd
        clear hok
        go_wp2_with fail
        go_round
        case rel => exact ⟨k + 1, by omega, by go_num, HE2⟩
        case measure => simp [intOf]; omega
    · obtain rfl : k = s.size := by omega
      have HR1 : Hid (R = true) := Lib.hid (by
        rw [← hE.out, List.drop_of_length_le (by simp)]
        rfl)
      go_wp2_with fail
      refine (l1In_sp _ _ _ _).mono ?_
      rintro e w1 ⟨rfl, rfl⟩
      go_wp2_with fail
      go_ret
      exact ⟨ret_bool (by rw [HR1.out, Bool.and_true]), rfl⟩

/-- The slice v reads as the list l of strings. -/
def RdS (w : World) (v : Value) (l : List ByteArray) : Prop :=
  ∃ A c, v = .slice A l.length c ∧ (0 < l.length → ∃ g off, A = some ⟨g, off, none⟩ ∧ ∀ i x, l[i]? = some x → w.cell? ⟨g, off + i, none⟩ = some (.string x))
theorem RdS.keep {w w' : World} {v : Value} {l : List ByteArray} (h : RdS w v l) (hk : Kp w w') : RdS w' v l := by
  obtain ⟨A, c, rfl, h⟩ := h
  refine ⟨A, c, rfl, fun h0 => ?_⟩
  obtain ⟨g, off, rfl, hc⟩ := h h0
  exact ⟨g, off, rfl, fun i x hx => hk.cell (hc i x hx)⟩

theorem getD_of {l : List ByteArray} {k : Nat} {x : ByteArray} (h : l[k]? = some x) : l.getD k ByteArray.empty = x := by simp [List.getD, h]
theorem idxS_hit {l : List ByteArray} {k : Nat} {x : ByteArray} (h : l[k]? = some x) (hn : ∀ j, j < k → l.getD j ByteArray.empty ≠ x) : idxS l x = k := by
  have := idxS_first (l := l) (k := k) (lt_of_at h) (fun j hj => by rw [getD_of h]; exact hn j hj)
  rwa [getD_of h] at this
theorem idxS_miss {l : List ByteArray} {x : ByteArray} (hn : ∀ j, j < l.length → l.getD j ByteArray.empty ≠ x) : idxS l x = -1 := by
  have := Lib.idxOfS_miss l l.length x hn
  rwa [List.take_length] at this
theorem not_more {l : List ByteArray} {k : Nat} {x m : ByteArray} (h : l[k]? = some x) (hne : x ≠ m) (hn : ∀ j, j < k → l.getD j ByteArray.empty ≠ m) : ∀ j, j < k + 1 → l.getD j ByteArray.empty ≠ m := fun j hj => by
  rcases Nat.lt_or_ge j k with h1 | h1
  · exact hn j h1
  · obtain rfl : j = k := by omega
    rw [getD_of h]
    exact hne

theorem indexS_any (v : Value) (l : List ByteArray) (m : ByteArray) (w : World) (h : RdS w v l) (hl : l.length ≤ 1048576) :
    Calls Tryz.prog 155 #[v, .string m] w fun e w' => e = .returned (.int .i64 (idxS l m)) ∧ w = w' := by
  obtain ⟨A, cp, rfl, h⟩ := h
  have HA := Lib.hid h
  obtain ⟨R, hR⟩ : ∃ R, R = idxS l m := ⟨_, rfl⟩
  rw [← hR]
  have HR := Lib.hid hR
  clear h hR
  generalize hn : l.length = n at *
  have HN := Lib.hid hn
  clear hn
  go_enter Tryz.func155, Tryz.ntmps155
  go_wp2_with fail
  go_loop [5, 8] (fun _ i => ∃ k : Nat, k ≤ n ∧ i = .int .i64 k ∧ Hid (∀ j, j < k → l.getD j ByteArray.empty ≠ m)) (fun _ i => n - (intOf i).toNat)
  case atStart => exact ⟨0, by omega, rfl, Lib.hid fun j hj => absurd hj (by omega)⟩
  case round =>
    obtain ⟨k, hk, rfl, hE⟩ := hrel
    by_cases hlt : k < n
    · obtain ⟨g, off, rfl, hc⟩ := HA.out (by omega)
      obtain ⟨x, hx⟩ : ∃ x, l[k]? = some x := ⟨l[k]'(by have := HN.out; omega), List.getElem?_eq_getElem _⟩
      have a0 := hc k x hx
      have HX := Lib.hid hx
      clear hc hx
      have hlt' : (k : Int) < n := by omega
      by_cases hok : x = m
      · have HE2 : Hid (R = (k : Int)) := Lib.hid (by rw [HR.out]; exact idxS_hit (by rw [← hok]; exact HX.out) hE.out)
        have he : (m.toList == x.toList) = true := (Lib.bytes_beq_iff m x).2 hok.symm
        clear hok
        go_wp2_with fail
        go_ret
        exact ⟨ret_int HE2.out.symm, rfl⟩
      · have HE2 := Lib.hid (not_more HX.out hok hE.out)
        have he : (m.toList == x.toList) = false := (Lib.bytes_beq_false_iff m x).2 (fun e => hok e.symm)
        clear hok
        go_wp2_with fail
        go_round
        case rel => exact ⟨k + 1, by omega, by go_num, HE2⟩
        case measure => simp [intOf]; omega
    · obtain rfl : k = n := by omega
      go_wp2_with fail
      go_ret
      refine ⟨ret_int ?_, rfl⟩
      rw [HR.out, idxS_miss (fun j hj => hE.out j (by have := HN.out; omega))]

theorem containsS_any (v : Value) (l : List ByteArray) (m : ByteArray) (w : World) (h : RdS w v l) (hl : l.length ≤ 1048576) :
    Calls Tryz.prog 150 #[v, .string m] w fun e w' => e = .returned (.bool (hasS l m)) ∧ w = w' := by
  obtain ⟨R, hR⟩ : ∃ R, R = idxS l m := ⟨_, rfl⟩
  have e : hasS l m = decide (0 ≤ R) := by rw [hR]; rfl
  have C := indexS_any v l m w h hl
  rw [← hR] at C
  rw [e]
  have HC := Lib.hid C
  clear hR C h e
  go_enter Tryz.func150, Tryz.ntmps150
  go_wp2_with fail
  refine HC.out.mono ?_
  rintro e w1 ⟨rfl, rfl⟩
  go_wp2_with fail
  go_ret
  exact ⟨rfl, rfl⟩

theorem nameAt_of {l : List ByteArray} {k : Nat} {x : ByteArray} (h : l[k]? = some x) : nameAt l k = (nameOk x && !hasS (l.take k) x) := by unfold nameAt; rw [getD_of h]
theorem names_more {l : List ByteArray} {k : Nat} (h : nameAt l k = true) (hn : ∀ j, j < k → nameAt l j = true) : ∀ j, j < k + 1 → nameAt l j = true := fun j hj => by
  rcases Nat.lt_or_ge j k with h1 | h1
  · exact hn j h1
  · obtain rfl : j = k := by omega
    exact h
theorem rdS_take {w : World} {l : List ByteArray} {g off k c : Nat} (hk : k ≤ l.length) (hc : ∀ i x, l[i]? = some x → w.cell? ⟨g, off + i, none⟩ = some (.string x)) : RdS w (.slice (some ⟨g, off, none⟩) k c) (l.take k) := by
  have e : (l.take k).length = k := by rw [List.length_take]; omega
  refine ⟨some ⟨g, off, none⟩, c, by rw [e], fun _ => ⟨g, off, rfl, fun i x hx => ?_⟩⟩
  rw [List.getElem?_take] at hx
  split at hx
  · exact hc i x hx
  · cases hx

set_option maxHeartbeats 1000000 in
theorem areNames_any (A : Option Addr) (n c : Nat) (l : List ByteArray) (w : World) (hn : l.length = n) (h : RdS w (.slice A n c) l) (hl : n ≤ 1048576) (hnc : n ≤ c) (hcc : c ≤ 9223372036854775807) :
    Calls Tryz.prog 138 #[.slice A n c] w fun e w' => e = .returned (.bool (namesOk l)) ∧ w = w' := by
  have HA : Hid (0 < n → ∃ g off, A = some ⟨g, off, none⟩ ∧ ∀ i x, l[i]? = some x → w.cell? ⟨g, off + i, none⟩ = some (.string x)) := Lib.hid (by
    obtain ⟨A', c', e, h⟩ := h
    simp only [Value.slice.injEq] at e
    obtain ⟨rfl, _, _⟩ := e
    rw [hn] at h
    exact h)
  obtain ⟨R, hR⟩ : ∃ R, R = namesOk l := ⟨_, rfl⟩
  rw [← hR]
  have HR := Lib.hid hR
  have HN := Lib.hid hn
  clear h hR hn
  go_enter Tryz.func138, Tryz.ntmps138
  go_wp2_with fail
  go_loop [3, 4, 7] (fun _ _ i => ∃ k : Nat, k ≤ n ∧ i = .int .i64 k ∧ Hid (∀ j, j < k → nameAt l j = true)) (fun _ _ i => n - (intOf i).toNat)
  case atStart => exact ⟨0, by omega, rfl, Lib.hid fun j hj => absurd hj (by omega)⟩
  case round =>
    obtain ⟨k, hk, rfl, hE⟩ := hrel
    by_cases hlt : k < n
    · obtain ⟨g, off, rfl, hc⟩ := HA.out (by omega)
      obtain ⟨x, hx⟩ : ∃ x, l[k]? = some x := ⟨l[k]'(by have := HN.out; omega), List.getElem?_eq_getElem _⟩
      have a0 := hc k x hx
      have HX := Lib.hid hx
      have HT := Lib.hid (rdS_take (w := w) (l := l) (g := g) (off := off) (k := k) (c := c) (by have := HN.out; omega) hc)
      have hlT : (l.take k).length ≤ 1048576 := by rw [List.length_take]; omega
      clear hc hx
      have hlt' : (k : Int) < n := by omega
      cases h1 : nameOk x
      · have HE2 : Hid (R = false) := Lib.hid (by rw [HR.out]; unfold namesOk; exact allN_no (k := k) (by have := HN.out; omega) (by rw [nameAt_of HX.out, h1]; rfl))
        go_wp2_with fail
        refine (isName_any _ _).mono ?_
        rintro e w1 ⟨rfl, rfl⟩
        go_wp2_with fail
        go_ret
        exact ⟨ret_bool HE2.out.symm, rfl⟩
      · cases h2 : hasS (l.take k) x
        · have HE2 := Lib.hid (names_more (by rw [nameAt_of HX.out, h1, h2]; rfl) hE.out)
          go_wp2_with fail
          refine (isName_any _ _).mono ?_
          rintro e w1 ⟨rfl, rfl⟩
          go_wp2_with fail
          refine (containsS_any _ (l.take k) _ _ HT.out hlT).mono ?_
          rintro e w1 ⟨rfl, rfl⟩
          go_wp2_with fail
          go_round
          case rel => exact ⟨k + 1, by omega, by go_num, HE2⟩
          case measure => simp [intOf]; omega
        · have HE2 : Hid (R = false) := Lib.hid (by rw [HR.out]; unfold namesOk; exact allN_no (k := k) (by have := HN.out; omega) (by rw [nameAt_of HX.out, h1, h2]; rfl))
          go_wp2_with fail
          refine (isName_any _ _).mono ?_
          rintro e w1 ⟨rfl, rfl⟩
          go_wp2_with fail
          refine (containsS_any _ (l.take k) _ _ HT.out hlT).mono ?_
          rintro e w1 ⟨rfl, rfl⟩
          go_wp2_with fail
          go_ret
          exact ⟨ret_bool HE2.out.symm, rfl⟩
    · obtain rfl : k = n := by omega
      go_wp2_with fail
      go_ret
      refine ⟨ret_bool ?_, rfl⟩
      rw [HR.out]
      unfold namesOk
      exact (allN_mk fun j hj => hE.out j (by have := HN.out; omega)).symm

end Go.Proofs.YtiojmbbdcccokaaGreatDoor

/-
  A range of permitted numbers: whether a number lies in it, and a variable that holds one.
-/
namespace Go.Proofs.YtiojmbbdcccokaaGreatDoor
open Go.RowKit

theorem has_any (lo hi n : Int) (w : World) :
    Calls Tryz.prog 101 #[.agg #[.int .i64 lo, .int .i64 hi], .int .i64 n] w fun e w' => e = .returned (.bool (spB lo hi n)) ∧ Kp w w' := by
  by_cases h1 : lo ≤ n
  · by_cases h2 : n ≤ hi
    · go_enter Tryz.func101, Tryz.ntmps101
      go_wp2
      go_ret
      exact ⟨ret_bool (by simp [spB, h1, h2]), (Kp.refl _).alloc _⟩
    · have hd : decide (n ≤ hi) = false := by simpa using h2
      go_enter Tryz.func101, Tryz.ntmps101
      go_wp2
      go_ret
      exact ⟨ret_bool (by simp [spB]; omega), (Kp.refl _).alloc _⟩
  · have hd : decide (lo ≤ n) = false := by simpa using h1
    go_enter Tryz.func101, Tryz.ntmps101
    go_wp2
    go_ret
    exact ⟨ret_bool (by simp [spB]; omega), (Kp.refl _).alloc _⟩

def SpanAt (w : World) (g : Nat) (lo hi : Int) : Prop := ce2 w g (.int .i64 lo) (.int .i64 hi)

end Go.Proofs.YtiojmbbdcccokaaGreatDoor
