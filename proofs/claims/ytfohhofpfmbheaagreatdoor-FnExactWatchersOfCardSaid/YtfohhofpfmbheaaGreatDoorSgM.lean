/-
  Lines of sight as plain numbers: the cells between two hexes of a map, all of them on the map; what a cell's code is; the first cell that blocks. No program is looked into.
-/
import Derived.Test.YtfohhofpfmbheaaGreatDoorQe
import Derived.Test.YtfohhofpfmbheaaGreatDoorQf
import Derived.Test.YtfohhofpfmbheaaGreatDoorQg
namespace Go.Proofs.YtfohhofpfmbheaaGreatDoor
open Go.RowKit

def idxC (W : Int) (c : List (Int × Int)) : List Int := c.map fun p => idxM W p.1 p.2
/-- The cells of the steps 1 to n of a line of N steps. -/
def sgF (W aq ar bq br N : Int) : Nat → List (List Int)
  | 0 => []
  | n + 1 => sgF W aq ar bq br N n ++ [idxC W (cellsL (aq * N + (bq - aq) * ((n : Int) + 1)) (ar * N + (br - ar) * ((n : Int) + 1)) N)]
def dstW (W i k : Int) : Int := distH (i % W) (i / W) (k % W) (k / W)
def sgtL (W i k : Int) : List (List Int) := sgF W (i % W) (i / W) (k % W) (k / W) (dstW W i k) ((dstW W i k).toNat - 1)

theorem sgF_len (W aq ar bq br N : Int) : ∀ n, (sgF W aq ar bq br N n).length = n
  | 0 => rfl
  | n + 1 => by rw [sgF, List.length_append, sgF_len W aq ar bq br N n]; rfl
theorem idxC_len (W : Int) (c : List (Int × Int)) : (idxC W c).length = c.length := by simp [idxC]
theorem cellsL_pos (q r p : Int) : 1 ≤ (cellsL q r p).length := by
  have hn : ∀ n, 1 ≤ (nrI n p).length := fun n => by
    unfold nrI nrFS
    split
    · simp
    · split <;> simp
  unfold cellsL
  split
  · simpa using hn r
  · split <;> simpa using hn q
theorem sgF_in (W aq ar bq br N : Int) : ∀ n, ∀ c ∈ sgF W aq ar bq br N n, 1 ≤ c.length ∧ c.length ≤ 2
  | 0, c, h => by cases h
  | n + 1, c, h => by
    rw [sgF, List.mem_append] at h
    rcases h with h | h
    · exact sgF_in W aq ar bq br N n c h
    · simp at h
      rw [h, idxC_len]
      exact ⟨cellsL_pos _ _ _, cellsL_len _ _ _⟩

theorem sgtL_bd {W H i k : Int} (a : 1 ≤ W) (b : W ≤ 10) (c : 1 ≤ H) (e : H ≤ 10) (hi : onI W H i = true) (hk : onI W H k = true) : (sgtL W i k).length ≤ 100 := by
  obtain ⟨i1, i2, i3, i4⟩ := hex_bd a b (onI_true hi).1 (onI_true hi).2
  obtain ⟨k1, k2, k3, k4⟩ := hex_bd a b (onI_true hk).1 (onI_true hk).2
  unfold sgtL
  rw [sgF_len]
  have b1 := absI_bd (k % W - i % W)
  have b2 := absI_bd (k / W - i / W)
  have b3 := absI_bd (k % W - i % W + (k / W - i / W))
  unfold dstW distH distI
  omega

/-- Each hex of a line between two hexes of a map is on the map. -/
theorem cell_in {W H aq ar bq br N k x y : Int} (hN : 1 ≤ N) (hd : N = distH aq ar bq br) (a1 : 0 ≤ aq) (a2 : aq < W) (a3 : 0 ≤ ar) (a4 : ar < H) (b1 : 0 ≤ bq) (b2 : bq < W) (b3 : 0 ≤ br) (b4 : br < H) (k0 : 0 ≤ k) (k1 : k ≤ N)
    (h : (x, y) ∈ cellsL (aq * N + (bq - aq) * k) (ar * N + (br - ar) * k) N) : 0 ≤ x ∧ x < W ∧ 0 ≤ y ∧ y < H := by
  have hd' : N = distI (bq - aq) (br - ar) := hd
  obtain ⟨⟨i1, i2, i3, i4, i5, i6⟩, _⟩ := dist_inv hd'
  rcases onL_of hN hd' k0 k1 h with ⟨e1, e2, f1, f2⟩ | ⟨e1, e2, f1, f2⟩ | ⟨e1, e2, f1, f2⟩ | ⟨e1, e2, f1, f2⟩ | ⟨e1, e2, f1, f2⟩ | ⟨e1, e2, f1, f2⟩
  · rcases Int.le_total ar br with g | g
    · have := f2 g; omega
    · have := f1 g; omega
  · rcases Int.le_total ar br with g | g
    · have := f2 g; omega
    · have := f1 g; omega
  · rcases Int.le_total aq bq with g | g
    · have := f2 g; omega
    · have := f1 g; omega
  · rcases Int.le_total aq bq with g | g
    · have := f2 g; omega
    · have := f1 g; omega
  · have := f2 (by omega); omega
  · have := f1 (by omega); omega

/-- The hexes' coordinates of an index of the map. -/
theorem hex_in {W H i : Int} (hW : 1 ≤ W) (h0 : 0 ≤ i) (h1 : i < W * H) : 0 ≤ i % W ∧ i % W < W ∧ 0 ≤ i / W ∧ i / W < H := by
  have e1 := Int.emod_nonneg i (show W ≠ 0 by omega)
  have e2 := Int.emod_lt_of_pos i (show 0 < W by omega)
  have e3 : 0 ≤ i / W := Int.ediv_nonneg h0 (by omega)
  have e4 : i / W < H := Int.ediv_lt_of_lt_mul (by omega) (by rw [Int.mul_comm]; exact h1)
  exact ⟨e1, e2, e3, e4⟩

theorem sgF_on {W H aq ar bq br N : Int} (hN : 1 ≤ N) (hd : N = distH aq ar bq br) (a1 : 0 ≤ aq) (a2 : aq < W) (a3 : 0 ≤ ar) (a4 : ar < H) (b1 : 0 ≤ bq) (b2 : bq < W) (b3 : 0 ≤ br) (b4 : br < H) : ∀ n : Nat, (n : Int) ≤ N → ∀ c ∈ sgF W aq ar bq br N n, ∀ x ∈ c, 0 ≤ x ∧ x < W * H
  | 0, _, c, h => by cases h
  | n + 1, hn, c, h => by
    rw [sgF, List.mem_append] at h
    rcases h with h | h
    · exact sgF_on hN hd a1 a2 a3 a4 b1 b2 b3 b4 n (by omega) c h
    · simp only [List.mem_singleton] at h
      subst h
      intro x hx
      unfold idxC at hx
      rw [List.mem_map] at hx
      obtain ⟨⟨q, r⟩, hm, rfl⟩ := hx
      obtain ⟨g1, g2, g3, g4⟩ := cell_in hN hd a1 a2 a3 a4 b1 b2 b3 b4 (by omega) (by omega) hm
      have m1 : 0 ≤ r * W := Int.mul_nonneg g3 (by omega)
      have m2 : (r + 1) * W ≤ H * W := Int.mul_le_mul_of_nonneg_right (by omega) (by omega)
      rw [Int.add_mul, Int.one_mul, Int.mul_comm H W] at m2
      unfold idxM
      simp only
      omega

/-- What a cell's code is: no hex blocks, some do, all do. -/
def codC (f : Int → Bool) (c : List Int) : Int := if c.any f = true then (if c.any (fun x => !f x) = true then 1 else 2) else 0
def codsC (f : Int → Bool) (C : List (List Int)) : List Int := C.map (codC f)
def wrstC : List Int → Int → Int
  | [], a => a
  | c :: cs, a => wrstC cs (max a c)
def codS (f : Int → Bool) (C : List (List Int)) : Int := wrstC (codsC f C) 0
def cntC (f : Int → Bool) : List Int → Int → Int
  | [], a => a
  | x :: xs, a => cntC f xs (if f x = true then a + 1 else a)
/-- The index of the first element of which p holds, or -1. -/
def fstN {α : Type} (p : α → Bool) : List α → Int → Int
  | [], _ => -1
  | x :: xs, n => if p x = true then n else fstN p xs (n + 1)

theorem codC_bd (f : Int → Bool) (c : List Int) : codC f c = 0 ∨ codC f c = 1 ∨ codC f c = 2 := by
  unfold codC
  split
  · split <;> simp
  · simp
theorem cntC_ge (f : Int → Bool) : ∀ (c : List Int) (a : Int), a ≤ cntC f c a ∧ cntC f c a ≤ a + c.length
  | [], a => by simp [cntC]
  | x :: xs, a => by
    have h1 := cntC_ge f xs (a + 1)
    have h2 := cntC_ge f xs a
    rw [cntC, List.length_cons]
    split <;> omega
theorem cntC_pos (f : Int → Bool) : ∀ (c : List Int) (a : Int), a < cntC f c a ↔ c.any f = true
  | [], a => by simp [cntC]
  | x :: xs, a => by
    have h1 := cntC_ge f xs (a + 1)
    rw [cntC, List.any_cons]
    cases hx : f x with
    | true => simp; omega
    | false => simpa using cntC_pos f xs a
theorem cntC_all (f : Int → Bool) : ∀ (c : List Int) (a : Int), cntC f c a = a + c.length ↔ c.any (fun x => !f x) = false
  | [], a => by simp [cntC]
  | x :: xs, a => by
    rw [cntC, List.any_cons, List.length_cons]
    cases hx : f x with
    | true =>
      have := cntC_all f xs (a + 1)
      simp only [if_pos, Bool.not_true, Bool.false_or]
      rw [← this]
      omega
    | false =>
      have := cntC_ge f xs a
      simp
      omega
theorem cnt_code {f : Int → Bool} {c : List Int} (hc : 1 ≤ c.length) : (cntC f c 0 = c.length ↔ codC f c = 2) ∧ (0 < cntC f c 0 ↔ codC f c ≠ 0) := by
  have h1 := cntC_pos f c 0
  have h2 := cntC_all f c 0
  rw [Int.zero_add] at h2
  have h3 := cntC_ge f c 0
  unfold codC
  constructor
  · rw [h2]
    by_cases ha : c.any f = true
    · rw [if_pos ha]
      by_cases hb : c.any (fun x => !f x) = true
      · simp [hb]
      · simp [hb]
    · rw [if_neg ha]
      have : ¬ 0 < cntC f c 0 := fun h => ha (h1.1 h)
      have h4 : ¬ (c.any (fun x => !f x) = false) := fun h => by have := h2.2 h; omega
      simp only [show (0 : Int) = 2 ↔ False from by decide, iff_false]
      exact h4
  · rw [h1]
    by_cases ha : c.any f = true
    · rw [if_pos ha]
      by_cases hb : c.any (fun x => !f x) = true
      · simp [hb, ha]
      · simp [hb, ha]
    · simp [ha]

theorem wrstC_bd : ∀ (l : List Int) (a : Int), (∀ x ∈ l, x ≤ 2) → a ≤ 2 → a ≤ wrstC l a ∧ wrstC l a ≤ 2
  | [], a, _, ha => ⟨Int.le_refl _, ha⟩
  | x :: xs, a, h, ha => by
    have h1 := h x (List.mem_cons_self ..)
    have := wrstC_bd xs (max a x) (fun y hy => h y (List.mem_cons_of_mem _ hy)) (by omega)
    rw [wrstC]
    omega
theorem wrstC_snoc (x : Int) : ∀ (l : List Int) (a : Int), wrstC (l ++ [x]) a = max (wrstC l a) x
  | [], a => rfl
  | y :: ys, a => by rw [List.cons_append, wrstC, wrstC, wrstC_snoc x ys]
theorem wrstC_take {l : List Int} {a x : Int} {n : Nat} (h : l[n]? = some x) : wrstC (l.take (n + 1)) a = max (wrstC (l.take n) a) x := by
  rw [List.take_add_one, h]
  exact wrstC_snoc x _ a
theorem wrstC_has (v : Int) : ∀ (l : List Int) (a : Int), v ≤ wrstC l a ↔ v ≤ a ∨ l.any (fun x => decide (v ≤ x)) = true
  | [], a => by simp [wrstC]
  | x :: xs, a => by
    rw [wrstC, wrstC_has v xs, List.any_cons, Bool.or_eq_true, decide_eq_true_iff]
    constructor
    · rintro (h | h)
      · rcases (show v ≤ a ∨ v ≤ x by omega) with g | g
        · exact Or.inl g
        · exact Or.inr (Or.inl g)
      · exact Or.inr (Or.inr h)
    · rintro (h | h | h)
      · exact Or.inl (by omega)
      · exact Or.inl (by omega)
      · exact Or.inr h
theorem fstN_neg {α : Type} (p : α → Bool) : ∀ (l : List α) (n : Int), 0 ≤ n → ((0 ≤ fstN p l n ↔ l.any p = true) ∧ (-1 ≤ fstN p l n) ∧ fstN p l n ≤ n + l.length)
  | [], n, h => by simp [fstN]; omega
  | x :: xs, n, h => by
    rw [fstN, List.any_cons, List.length_cons]
    cases hx : p x with
    | true => simp; omega
    | false =>
      obtain ⟨h1, h2, h3⟩ := fstN_neg p xs (n + 1) (by omega)
      simp only [Bool.false_eq_true, if_false, Bool.false_or]
      exact ⟨h1, h2, by omega⟩
theorem fstN_map {α β : Type} (f : α → β) (p : β → Bool) : ∀ (l : List α) (n : Int), fstN p (l.map f) n = fstN (fun x => p (f x)) l n
  | [], n => rfl
  | x :: xs, n => by rw [List.map_cons, fstN, fstN, fstN_map f p xs]
theorem fstN_cong {α : Type} {p q : α → Bool} : ∀ (l : List α) (n : Int), (∀ x ∈ l, p x = q x) → fstN p l n = fstN q l n
  | [], n, _ => rfl
  | x :: xs, n, h => by
    rw [fstN, fstN, h x (List.mem_cons_self ..), fstN_cong xs (n + 1) (fun y hy => h y (List.mem_cons_of_mem _ hy))]
def fstC (f : Int → Bool) (C : List (List Int)) : Int := fstN (fun c => codC f c == 2) C 0
theorem fstN_skip {α : Type} (p : α → Bool) : ∀ (l : List α) (k : Nat) (n : Int), (∀ x ∈ l.take k, p x = false) → fstN p l n = fstN p (l.drop k) (n + (min k l.length : Nat))
  | [], k, n, _ => by simp
  | x :: xs, 0, n, _ => by simp
  | x :: xs, k + 1, n, h => by
    have h1 := h x (by simp)
    rw [fstN, h1]
    simp only [Bool.false_eq_true, if_false, List.drop_succ_cons]
    rw [fstN_skip p xs k (n + 1) (fun y hy => h y (by simp [hy]))]
    congr 1
    simp only [List.length_cons]
    omega
/-- The code of a sight, by its first cell that blocks and its cells that do not let through. -/
theorem codS_eq (f : Int → Bool) (C : List (List Int)) : codS f C = if 0 ≤ fstC f C then 2 else if C.any (fun c => codC f c != 0) = true then 1 else 0 := by
  have hb : ∀ x ∈ codsC f C, x ≤ 2 := fun x hx => by
    unfold codsC at hx
    rw [List.mem_map] at hx
    obtain ⟨c, _, rfl⟩ := hx
    rcases codC_bd f c with h | h | h <;> omega
  have b := wrstC_bd (codsC f C) 0 hb (by omega)
  have h2 := wrstC_has 2 (codsC f C) 0
  have h1 := wrstC_has 1 (codsC f C) 0
  have f0 := (fstN_neg (fun c => codC f c == 2) C 0 (by omega)).1
  have e2 : (codsC f C).any (fun x => decide (2 ≤ x)) = C.any (fun c => codC f c == 2) := by
    unfold codsC
    rw [List.any_map]
    congr 1
    funext c
    simp only [Function.comp_apply]
    rcases codC_bd f c with h | h | h <;> rw [h] <;> rfl
  have e1 : (codsC f C).any (fun x => decide (1 ≤ x)) = C.any (fun c => codC f c != 0) := by
    unfold codsC
    rw [List.any_map]
    congr 1
    funext c
    simp only [Function.comp_apply]
    rcases codC_bd f c with h | h | h <;> rw [h] <;> rfl
  rw [e2] at h2
  rw [e1] at h1
  unfold codS fstC
  split
  · rename_i h
    have := h2.2 (Or.inr (f0.1 h))
    omega
  · rename_i h
    have n2 : ¬ 2 ≤ wrstC (codsC f C) 0 := fun g => by
      rcases h2.1 g with g | g
      · omega
      · exact h (f0.2 g)
    split
    · rename_i g
      have := h1.2 (Or.inr g)
      omega
    · rename_i g
      have n1 : ¬ 1 ≤ wrstC (codsC f C) 0 := fun u => by
        rcases h1.1 u with u | u
        · omega
        · exact g u
      omega

/-- A terrain's height, its top, and whether a hex blocks the sight between two others. -/
def hgtI (l : List Ter) (lt : List Int) (i : Int) : Int := ((terN l lt i.toNat).map (·.height)).getD 0
def topI (l : List Ter) (lt : List Int) (i : Int) : Int := ((terN l lt i.toNat).map fun t => if t.blocks = true then t.height + 1 else t.height).getD 0
def blkI (l : List Ter) (lt : List Int) (i k x : Int) : Bool := decide (max (hgtI l lt i) (hgtI l lt k) < topI l lt x)
def codI (l : List Ter) (lt : List Int) (W i k : Int) : Int := codS (blkI l lt i k) (sgtL W i k)
def fstI (l : List Ter) (lt : List Int) (W i k : Int) : Int := fstC (blkI l lt i k) (sgtL W i k)
def seenI (l : List Ter) (lt : List Int) (W i far worst : Int) (n : Nat) : List Int := (nearF W (i % W) (i / W) far n).filter fun k => decide (codI l lt W i k ≤ worst)
def viewK (m : List Knd) (k : Nat) : Int := ((m[k]?).map (·.view)).getD 0
def byI (l : List Ter) (m : List Knd) (lt : List Int) (W i : Int) (k n : Nat) : List Int := seenI l lt W i (viewK m k) 1 n
def watI (l : List Ter) (m : List Knd) (lt : List Int) (W x : Int) (k n : Nat) : List Int := (opnL l lt k n).filter fun i => (byI l m lt W i k n).contains x

theorem ter_bd {l : List Ter} {m : List Knd} {a b c d e W H : Int} {lt lr ld : List Int} (h : brdOk ⟨l, m, a, b, c, d, e⟩ W H lt lr ld = true) {i : Nat} {t : Ter} (ht : terN l lt i = some t) : 0 ≤ t.height ∧ t.height ≤ 3 := by
  have h1 := brdOk_rul h
  simp only [rulOk, Bool.and_eq_true, List.all_eq_true] at h1
  have h2 := h1.2.1 t (List.mem_of_getElem? ht)
  simp only [numT, spB, Bool.and_eq_true, decide_eq_true_iff] at h2
  omega
theorem view_bd {l : List Ter} {m : List Knd} {a b c d e W H : Int} {lt lr ld : List Int} (h : brdOk ⟨l, m, a, b, c, d, e⟩ W H lt lr ld = true) {k : Nat} {t : Knd} (ht : m[k]? = some t) : 0 ≤ t.view ∧ t.view ≤ 4 := by
  have h1 := brdOk_rul h
  simp only [rulOk, Bool.and_eq_true, List.all_eq_true] at h1
  have h2 := h1.2.2.1 t (List.mem_of_getElem? ht)
  simp only [numK, spB, Bool.and_eq_true, decide_eq_true_iff] at h2
  omega
theorem hgtI_of {l : List Ter} {lt : List Int} {i : Nat} {t : Ter} (h : terN l lt i = some t) : hgtI l lt (i : Int) = t.height := by simp [hgtI, h]
theorem topI_of {l : List Ter} {lt : List Int} {i : Nat} {t : Ter} (h : terN l lt i = some t) : topI l lt (i : Int) = if t.blocks = true then t.height + 1 else t.height := by simp [topI, h]

end Go.Proofs.YtfohhofpfmbheaaGreatDoor
