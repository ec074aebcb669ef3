/-
  Texts of this seat in one module: MapG, MirM, BrdM, ListI, Name, NameB, SpanB, Span, RulW, RulI, RulE, Law, OpenI, MapL, ToMap.
-/
import Derived.Deep.RegionHeld3
import Derived.Test.YtmolpkjdjkhnpaaGreatDoorRows
import Derived.ProofKit
import Derived.OpenVars
import Derived.Below
import Derived.Lib.SmallJoins
import Derived.OpenShut
import Derived.Test.YtmolpkjdjkhnpaaGreatDoorQa

/-
  Rivers and roads of a map, the program's and the reference's: what plain functions say, and nothing that was there is changed. The table of directions holds what the program's text lays.
-/
namespace Go.Proofs.YtmolpkjdjkhnpaaGreatDoor
open Go.RowKit

def hasB (l : List Int) (m : Int) : Bool := l.contains m
theorem has_yes {x n : Int} {l : List Int} (h : x = n) : hasB (x :: l) n = true := by simp [hasB, h]
theorem has_no {x n : Int} {l : List Int} (h : ¬ x = n) : hasB (x :: l) n = hasB l n := by
  unfold hasB
  rw [List.contains_cons]
  have : (n == x) = false := by simpa using fun e : n = x => h e.symm
  rw [this, Bool.false_or]

/-- A place at which the number stands, or a negative number. -/
def IndexPost (l : List Int) (m : Int) (w : World) (e : Ending) (w' : World) : Prop := ∃ j : Int, e = .returned (.int .i64 j) ∧ decide (0 ≤ j) = hasB l m ∧ w = w'

theorem index_any (v : Value) (l : List Int) (m : Int) (w : World) (h : RdI w v l) (hl : l.length ≤ 1048576) :
    Calls Tryz.prog 90 #[v, .int .i64 m] w (IndexPost l m w) := by
  obtain ⟨A, cp, rfl, h⟩ := h
  have HA := Lib.hid h
  obtain ⟨R, hR⟩ : ∃ R, R = hasB l m := ⟨_, rfl⟩
  have HR := Lib.hid hR
  have HP : Hid (∀ j : Int, decide (0 ≤ j) = R → IndexPost l m w (.returned (.int .i64 j)) w) := Lib.hid fun j hj => ⟨j, rfl, hj.trans hR, rfl⟩
  clear h hR
  generalize hn : l.length = n at *
  have HN := Lib.hid hn
  clear hn
  go_enter Tryz.func90, Tryz.ntmps90
  go_wp2_with fail
  go_loop [5, 8] (fun _ i => ∃ k : Nat, k ≤ n ∧ i = .int .i64 k ∧ Hid (hasB (l.drop k) m = R)) (fun _ i => n - (intOf i).toNat)
  case atStart => exact ⟨0, by omega, rfl, Lib.hid HR.out.symm⟩
  case round =>
    obtain ⟨k, hk, rfl, hE⟩ := hrel
    by_cases hlt : k < n
    · obtain ⟨g, off, rfl, hc⟩ := HA.out (by omega)
      obtain ⟨x, hx⟩ : ∃ x, l[k]? = some x := ⟨l[k]'(by have := HN.out; omega), List.getElem?_eq_getElem _⟩
      have a0 := hc k x hx
      have HX := Lib.hid (drop_step hx)
      clear hc hx
      have hlt' : (k : Int) < n := by omega
      by_cases hok : x = m
      · have HE2 : Hid (R = true) := Lib.hid (by rw [← hE.out, HX.out]; exact has_yes hok)
        have he : (m == x) = true := by simpa using hok.symm
        clear hok
        go_wp2_with fail
        go_ret
        exact HP.out _ (by rw [HE2.out]; simp)
      · have HE2 : Hid (hasB (l.drop (k + 1)) m = R) := Lib.hid (by rw [← hE.out, HX.out]; exact (has_no hok).symm)
        have he : (m == x) = false := by simpa using fun e : m = x => hok e.symm
        clear hok
        go_wp2_with fail
        go_round
        case rel => exact ⟨k + 1, by omega, by go_num, HE2⟩
        case measure => simp [intOf]; omega
    · obtain rfl : k = n := by omega
      go_wp2_with fail
      go_ret
      refine HP.out _ ?_
      rw [← hE.out, List.drop_of_length_le (by rw [HN.out]; omega)]
      rfl

theorem contains_any (v : Value) (l : List Int) (m : Int) (w : World) (h : RdI w v l) (hl : l.length ≤ 1048576) :
    Calls Tryz.prog 70 #[v, .int .i64 m] w fun e w' => e = .returned (.bool (hasB l m)) ∧ w = w' := by
  obtain ⟨R, hR⟩ : ∃ R, R = hasB l m := ⟨_, rfl⟩
  have C := index_any v l m w h hl
  unfold IndexPost at C
  rw [← hR] at C ⊢
  have HC := Lib.hid C
  clear hR C h
  go_enter Tryz.func70, Tryz.ntmps70
  go_wp2_with fail
  refine HC.out.mono ?_
  rintro e w1 ⟨j, rfl, hj, rfl⟩
  subst hj
  go_wp2_with fail
  go_ret
  exact ⟨rfl, rfl⟩

end Go.Proofs.YtmolpkjdjkhnpaaGreatDoor

/-
  Mirrored maps as plain numbers and lists: the mirrored index and edge, an insertion into a rising list, and that inserting different numbers one by one is sorting them. No program is looked into.
-/
namespace Go.Proofs.YtmolpkjdjkhnpaaGreatDoor
open Go.RowKit

/-- Insert a number into a rising list, unless it is there. -/
def putI : List Int → Int → List Int
  | [], n => [n]
  | x :: l, n => if x < n then x :: putI l n else if x = n then x :: l else n :: x :: l
theorem putI_mem : ∀ (l : List Int) (n y : Int), y ∈ putI l n ↔ y = n ∨ y ∈ l
  | [], n, y => by simp [putI]
  | x :: l, n, y => by
    unfold putI
    split
    · simp only [List.mem_cons, putI_mem l n y]
      constructor
      · rintro (h | h | h)
        · exact .inr (.inl h)
        · exact .inl h
        · exact .inr (.inr h)
      · rintro (h | h | h)
        · exact .inr (.inl h)
        · exact .inl h
        · exact .inr (.inr h)
    · split
      · rename_i h
        subst h
        simp
      · simp only [List.mem_cons]
theorem putI_perm : ∀ (l : List Int) (n : Int), n ∉ l → (putI l n).Perm (n :: l)
  | [], n, _ => .refl _
  | x :: l, n, h => by
    unfold putI
    simp only [List.mem_cons, not_or] at h
    split
    · exact ((putI_perm l n h.2).cons x).trans (.swap n x l)
    · rw [if_neg (fun e => h.1 e.symm)]
theorem putI_rise : ∀ (l : List Int) (n : Int), l.Pairwise (· < ·) → (putI l n).Pairwise (· < ·)
  | [], n, _ => by simp [putI]
  | x :: l, n, h => by
    unfold putI
    rw [List.pairwise_cons] at h
    split
    · rename_i hx
      rw [List.pairwise_cons]
      refine ⟨fun y hy => ?_, putI_rise l n h.2⟩
      rcases (putI_mem l n y).1 hy with rfl | hy
      · exact hx
      · exact h.1 y hy
    · split
      · rw [List.pairwise_cons]
        exact h
      · rename_i h1 h2
        rw [List.pairwise_cons, List.pairwise_cons]
        refine ⟨fun y hy => ?_, h⟩
        rcases List.mem_cons.1 hy with rfl | hy
        · omega
        · have := h.1 y hy
          omega

/-- All numbers of a list inserted, one by one. -/
def putAll (l : List Int) : List Int := l.foldl putI []
theorem foldl_put : ∀ (l acc : List Int), acc.Pairwise (· < ·) → l.Nodup → (∀ x ∈ l, x ∉ acc) → (l.foldl putI acc).Perm (l ++ acc) ∧ (l.foldl putI acc).Pairwise (· < ·)
  | [], acc, h, _, _ => ⟨.refl _, h⟩
  | x :: l, acc, h, hn, hd => by
    rw [List.nodup_cons] at hn
    have hx : x ∉ acc := hd x (List.mem_cons_self)
    obtain ⟨p, s⟩ := foldl_put l (putI acc x) (putI_rise acc x h) hn.2 (fun y hy hm => by
      rcases (putI_mem acc x y).1 hm with rfl | hm
      · exact hn.1 hy
      · exact hd y (List.mem_cons_of_mem _ hy) hm)
    refine ⟨?_, s⟩
    rw [List.foldl_cons]
    exact p.trans (((putI_perm acc x hx).append_left l).trans List.perm_middle)

theorem eq_of_rising : ∀ (a b : List Int), a.Perm b → a.Pairwise (· < ·) → b.Pairwise (· ≤ ·) → a = b
  | [], b, p, _, _ => (List.nil_perm.1 p).symm
  | x :: a, [], p, _, _ => absurd (List.perm_nil.1 p) (by simp)
  | x :: a, y :: b, p, ha, hb => by
    rw [List.pairwise_cons] at ha hb
    have hxy : x = y := by
      have hx : x ∈ y :: b := p.mem_iff.1 List.mem_cons_self
      have hy : y ∈ x :: a := p.mem_iff.2 List.mem_cons_self
      rcases List.mem_cons.1 hx with h | h
      · exact h
      · rcases List.mem_cons.1 hy with h' | h'
        · exact h'.symm
        · have h1 := hb.1 x h
          have h2 := ha.1 y h'
          omega
    subst hxy
    rw [eq_of_rising a b (List.Perm.cons_inv p) ha.2 hb.2]

theorem putAll_sort (l : List Int) (h : l.Nodup) : putAll l = l.mergeSort fun x y => decide (x ≤ y) := by
  obtain ⟨p, s⟩ := foldl_put l [] List.Pairwise.nil h (fun _ _ => by simp)
  rw [List.append_nil] at p
  refine eq_of_rising _ _ (p.trans (List.mergeSort_perm l _).symm) s ?_
  have := List.pairwise_mergeSort (le := fun x y : Int => decide (x ≤ y)) (by intro a b c h1 h2; simp at *; omega) (by intro a b; simp; omega) l
  exact this.imp (fun h => by simpa using h)

def mirI (W H i : Int) : Int := (i % W) * H + i / W
def mirE (W H e : Int) : Int := edgI H (mirI W H (e / 3)) (5 - e % 3)

theorem place_eq {A B A' B' H : Int} (h1 : 0 ≤ B) (h2 : B < H) (h3 : 0 ≤ B') (h4 : B' < H) (h : A * H + B = A' * H + B') : A = A' ∧ B = B' := by
  have e1 : (A * H + B) / H = A ∧ (A * H + B) % H = B := (Int.ediv_emod_unique (by omega)).2 ⟨by rw [Int.mul_comm]; omega, h1, h2⟩
  have e2 : (A' * H + B') / H = A' ∧ (A' * H + B') % H = B' := (Int.ediv_emod_unique (by omega)).2 ⟨by rw [Int.mul_comm]; omega, h3, h4⟩
  rw [h] at e1
  exact ⟨e1.1.symm.trans e2.1, e1.2.symm.trans e2.2⟩
theorem place_parts {A B H : Int} (h1 : 0 ≤ B) (h2 : B < H) : (A * H + B) / H = A ∧ (A * H + B) % H = B :=
  (Int.ediv_emod_unique (by omega)).2 ⟨by rw [Int.mul_comm]; omega, h1, h2⟩
theorem dir_mir {d : Int} (h0 : 0 ≤ d) (h2 : d ≤ 2) : dirQ (5 - d) = dirR d ∧ dirR (5 - d) = dirQ d := by
  rcases (show d = 0 ∨ d = 1 ∨ d = 2 by omega) with rfl | rfl | rfl <;> decide

/-- What an edge is, and what its mirror is. -/
theorem edge_parts {W H e : Int} (a : 1 ≤ W) (b : W ≤ 10) (h : edgeB W H e = true) :
    0 ≤ e ∧ (0 ≤ e / 3 % W ∧ e / 3 % W < W ∧ 0 ≤ e / 3 / W ∧ e / 3 / W < H) ∧ (0 ≤ e / 3 % W + dirQ (e % 3) ∧ e / 3 % W + dirQ (e % 3) < W ∧ 0 ≤ e / 3 / W + dirR (e % 3) ∧ e / 3 / W + dirR (e % 3) < H) ∧
    mirE W H e = 3 * ((e / 3 % W + dirQ (e % 3)) * H + (e / 3 / W + dirR (e % 3))) + (2 - e % 3) ∧ nbB H W (mirI W H (e / 3)) (5 - e % 3) = true := by
  have h0 : 0 ≤ e := by
    rcases Int.lt_or_le e 0 with hn | hn
    · rw [edgeB_neg hn] at h
      cases h
    · exact hn
  rw [edgeB_nat h0] at h
  simp only [nbB, Bool.and_eq_true] at h
  obtain ⟨hi, hd, hm⟩ := h
  obtain ⟨i0, i1⟩ := onI_true hi
  have hb := hex_bd a b i0 i1
  obtain ⟨m1, m2, m3, m4⟩ := inM_true hm
  unfold nbQ at m1 m2
  unfold nbR at m3 m4
  obtain ⟨d1, d2⟩ := dir_mir (d := e % 3) (by omega) (by omega)
  have pp := place_parts (A := e / 3 % W) (B := e / 3 / W) (H := H) hb.2.2.1 hb.2.2.2
  have eq1 : nbQ H (mirI W H (e / 3)) (5 - e % 3) = e / 3 / W + dirR (e % 3) := by
    unfold nbQ mirI
    rw [pp.2, d1]
  have eq2 : nbR H (mirI W H (e / 3)) (5 - e % 3) = e / 3 % W + dirQ (e % 3) := by
    unfold nbR mirI
    rw [pp.1, d2]
  have hin : inM H W (nbQ H (mirI W H (e / 3)) (5 - e % 3)) (nbR H (mirI W H (e / 3)) (5 - e % 3)) = true := by
    rw [eq1, eq2]
    exact inM_mk m3 m4 m1 m2
  have hon : onI H W (mirI W H (e / 3)) = true := by
    have := idx_bd (W := H) (H := W) (q := e / 3 / W) (r := e / 3 % W) (inM_mk hb.2.2.1 hb.2.2.2 hb.1 hb.2.1)
    unfold idxM at this
    unfold mirI
    exact onI_mk this.1 this.2
  refine ⟨h0, hb, ⟨m1, m2, m3, m4⟩, ?_, ?_⟩
  · unfold mirE edgI nbI
    rw [if_neg (by omega), eq1, eq2]
    unfold idxM
    omega
  · simp only [nbB, nbM, hin, hon, dirB_mk (show 0 ≤ 5 - e % 3 by omega) (show 5 - e % 3 ≤ 5 by omega), Bool.and_self]
theorem mirE_inj {W H e f : Int} (a : 1 ≤ W) (b : W ≤ 10) (he : edgeB W H e = true) (hf : edgeB W H f = true) (h : mirE W H e = mirE W H f) : e = f := by
  obtain ⟨e0, eb, em, ee, _⟩ := edge_parts a b he
  obtain ⟨f0, fb, fm, ff, _⟩ := edge_parts a b hf
  rw [ee, ff] at h
  have hd : e % 3 = f % 3 := by omega
  obtain ⟨h1, h2⟩ := place_eq em.2.2.1 em.2.2.2 fm.2.2.1 fm.2.2.2 (show (e / 3 % W + dirQ (e % 3)) * H + (e / 3 / W + dirR (e % 3)) = (f / 3 % W + dirQ (f % 3)) * H + (f / 3 / W + dirR (f % 3)) by omega)
  rw [hd] at h1 h2
  have q : e / 3 % W = f / 3 % W := by omega
  have r : e / 3 / W = f / 3 / W := by omega
  have de := Int.ediv_mul_add_emod (e / 3) W
  have df := Int.ediv_mul_add_emod (f / 3) W
  rw [q, r] at de
  omega
theorem rise_nodup : ∀ (p : Int) (l : List Int), riseFrom p l = true → (∀ x ∈ l, p < x) ∧ l.Nodup
  | _, [], _ => ⟨fun x h => (by cases h), List.nodup_nil⟩
  | p, x :: l, h => by
    simp only [riseFrom, Bool.and_eq_true, decide_eq_true_eq] at h
    obtain ⟨h1, h2⟩ := rise_nodup x l h.2
    refine ⟨fun y hy => ?_, ?_⟩
    · rcases List.mem_cons.1 hy with rfl | hy
      · exact h.1
      · have := h1 y hy
        omega
    · rw [List.nodup_cons]
      exact ⟨fun hx => (by have := h1 x hx; omega), h2⟩
/-- The mirrored edges of a valid list, sorted, are those inserted one by one. -/
theorem mir_list {W H : Int} {l : List Int} (a : 1 ≤ W) (b : W ≤ 10) (h : edgesOk W H l = true) : putAll (l.map (mirE W H)) = (l.map (mirE W H)).mergeSort fun x y => decide (x ≤ y) := by
  rw [edgesOk_eq, Bool.and_eq_true, List.all_eq_true] at h
  refine putAll_sort _ ?_
  have hn := (rise_nodup _ _ h.2).2
  rw [List.nodup_iff_pairwise_ne] at hn ⊢
  rw [List.pairwise_map]
  exact hn.imp_of_mem fun hx hy hne e => hne (mirE_inj a b (h.1 _ hx) (h.1 _ hy) e)

end Go.Proofs.YtmolpkjdjkhnpaaGreatDoor

/-
  Boards as plain data: when a board is valid, the cost to enter a hex, open hexes, unused and missing terrains, stuck kinds. No program is looked into.
-/
namespace Go.Proofs.YtmolpkjdjkhnpaaGreatDoor
open Go.RowKit

/-- The numbers below n with a property, rising. -/
def filN (f : Nat → Bool) : Nat → List Int
  | 0 => []
  | k + 1 => if f k then filN f k ++ [(k : Int)] else filN f k
theorem filN_yes {f : Nat → Bool} {k : Nat} (h : f k = true) : filN f (k + 1) = filN f k ++ [(k : Int)] := by rw [filN, h]; rfl
theorem filN_no {f : Nat → Bool} {k : Nat} (h : f k = false) : filN f (k + 1) = filN f k := by rw [filN, h]; rfl
theorem filN_len (f : Nat → Bool) : ∀ k, (filN f k).length ≤ k
  | 0 => by simp [filN]
  | k + 1 => by
    have := filN_len f k
    cases h : f k
    · rw [filN_no h]; omega
    · rw [filN_yes h, List.length_append]; simp; omega
theorem filN_mem (f : Nat → Bool) : ∀ k (x : Int), x ∈ filN f k ↔ ∃ j : Nat, j < k ∧ x = j ∧ f j = true
  | 0, x => by simp [filN]
  | k + 1, x => by
    cases h : f k
    · rw [filN_no h, filN_mem f k x]
      constructor
      · rintro ⟨j, hj, e, hf⟩; exact ⟨j, by omega, e, hf⟩
      · rintro ⟨j, hj, e, hf⟩
        rcases Nat.lt_or_ge j k with h1 | h1
        · exact ⟨j, h1, e, hf⟩
        · obtain rfl : j = k := by omega
          rw [h] at hf; cases hf
    · rw [filN_yes h, List.mem_append, filN_mem f k x, List.mem_singleton]
      constructor
      · rintro (⟨j, hj, e, hf⟩ | rfl)
        · exact ⟨j, by omega, e, hf⟩
        · exact ⟨k, by omega, rfl, h⟩
      · rintro ⟨j, hj, e, hf⟩
        rcases Nat.lt_or_ge j k with h1 | h1
        · exact .inl ⟨j, h1, e, hf⟩
        · obtain rfl : j = k := by omega
          exact .inr e
theorem filN_rise (f : Nat → Bool) : ∀ k, (filN f k).Pairwise (· < ·)
  | 0 => by simp [filN]
  | k + 1 => by
    cases h : f k
    · rw [filN_no h]; exact filN_rise f k
    · rw [filN_yes h, List.pairwise_append]
      refine ⟨filN_rise f k, by simp, fun x hx y hy => ?_⟩
      obtain ⟨j, hj, e, _⟩ := (filN_mem f k x).1 hx
      rw [List.mem_singleton] at hy
      omega
theorem filN_cong {f g : Nat → Bool} : ∀ k, (∀ j, j < k → f j = g j) → filN f k = filN g k
  | 0, _ => rfl
  | k + 1, h => by
    have h1 := filN_cong k (fun j hj => h j (by omega))
    have h2 := h k (by omega)
    rw [filN, filN, h1, h2]

/-- What a terrain costs a kind. -/
def costT (l : List Ter) (t k : Nat) : Int := (((l[t]?).map (·.cost)).getD [])[k]?.getD 0
/-- What a hex costs a kind. -/
def costB (l : List Ter) (lt : List Int) (k i : Nat) : Int := costT l (lt[i]?.getD 0).toNat k
def opnB (l : List Ter) (lt : List Int) (k i : Nat) : Bool := decide (0 < costB l lt k i)
def opnL (l : List Ter) (lt : List Int) (k n : Nat) : List Int := filN (opnB l lt k) n
def unuB (lt : List Int) (n : Nat) : Bool := !hasB lt n
def unuL (lt : List Int) (nt : Nat) : List Int := filN (unuB lt) nt
def misB (lt : List Int) (nt n : Nat) : Bool := decide (nt ≤ n) && hasB lt n
def misL (lt : List Int) (nt : Nat) : List Int := filN (misB lt nt) 6

/-- A valid board. -/
def brdOk (r : Rul) (W H : Int) (lt lr ld : List Int) : Bool := (rulOk r && mapOk W H lt lr ld) && lt.all (spB 0 (r.ters.length - 1))

theorem hasB_iff (l : List Int) (m : Int) : hasB l m = true ↔ m ∈ l := by simp [hasB]
theorem mapOk_terr {W H : Int} {lt lr ld : List Int} (h : mapOk W H lt lr ld = true) : ∀ x ∈ lt, 0 ≤ x ∧ x ≤ 5 := by
  simp only [mapOk, Bool.and_eq_true, List.all_eq_true] at h
  intro x hx
  have := h.2.2.2.1 x hx
  simpa [terrB] using this
theorem misL_nil {lt : List Int} {nt : Nat} (hb : ∀ x ∈ lt, 0 ≤ x ∧ x ≤ 5) : decide (misL lt nt = []) = lt.all (spB 0 ((nt : Int) - 1)) := by
  rw [Bool.eq_iff_iff, decide_eq_true_iff, List.all_eq_true]
  constructor
  · intro h x hx
    have hbx := hb x hx
    simp only [spB, Bool.and_eq_true, decide_eq_true_iff]
    refine ⟨hbx.1, ?_⟩
    by_cases hlt : x ≤ (nt : Int) - 1
    · exact hlt
    · have : x ∈ misL lt nt := (filN_mem _ _ _).2 ⟨x.toNat, by omega, by omega, by
        simp only [misB, Bool.and_eq_true, decide_eq_true_iff]
        refine ⟨by omega, (hasB_iff _ _).2 ?_⟩
        have e : ((x.toNat : Nat) : Int) = x := by omega
        rw [e]; exact hx⟩
      rw [h] at this
      cases this
  · intro h
    rw [List.eq_nil_iff_forall_not_mem]
    intro x hx
    obtain ⟨j, hj, rfl, hm⟩ := (filN_mem _ _ _).1 hx
    simp only [misB, Bool.and_eq_true, decide_eq_true_iff] at hm
    have := h _ ((hasB_iff _ _).1 hm.2)
    simp only [spB, Bool.and_eq_true, decide_eq_true_iff] at this
    omega

/-- The terrains of a map that are not less than nt, put one by one. -/
def misS (nt : Nat) : List Int → List Int → List Int
  | acc, [] => acc
  | acc, t :: l => misS nt (if (nt : Int) ≤ t then putI acc t else acc) l
theorem misS_mem (nt : Nat) : ∀ (l acc : List Int) (y : Int), y ∈ misS nt acc l ↔ (y ∈ acc ∨ (y ∈ l ∧ (nt : Int) ≤ y))
  | [], acc, y => by simp [misS]
  | t :: l, acc, y => by
    rw [misS, misS_mem nt l]
    split
    · rw [putI_mem]
      constructor
      · rintro ((rfl | h) | ⟨h, h'⟩)
        · exact .inr ⟨by simp, by assumption⟩
        · exact .inl h
        · exact .inr ⟨by simp [h], h'⟩
      · rintro (h | ⟨h, h'⟩)
        · exact .inl (.inr h)
        · rcases List.mem_cons.1 h with rfl | h
          · exact .inl (.inl rfl)
          · exact .inr ⟨h, h'⟩
    · constructor
      · rintro (h | ⟨h, h'⟩)
        · exact .inl h
        · exact .inr ⟨by simp [h], h'⟩
      · rintro (h | ⟨h, h'⟩)
        · exact .inl h
        · rcases List.mem_cons.1 h with rfl | h
          · exact absurd h' (by assumption)
          · exact .inr ⟨h, h'⟩
theorem misS_rise (nt : Nat) : ∀ (l acc : List Int), acc.Pairwise (· < ·) → (misS nt acc l).Pairwise (· < ·)
  | [], acc, h => h
  | t :: l, acc, h => by
    rw [misS]
    apply misS_rise nt l
    split
    · exact putI_rise _ _ h
    · exact h
theorem rising_ext : ∀ (a b : List Int), a.Pairwise (· < ·) → b.Pairwise (· < ·) → (∀ x, x ∈ a ↔ x ∈ b) → a = b
  | [], [], _, _, _ => rfl
  | [], y :: b, _, _, h => absurd ((h y).2 (by simp)) (by simp)
  | x :: a, [], _, _, h => absurd ((h x).1 (by simp)) (by simp)
  | x :: a, y :: b, ha, hb, h => by
    rw [List.pairwise_cons] at ha hb
    have hxy : x = y := by
      have h1 : x = y ∨ x ∈ b := by simpa using (h x).1 (by simp)
      have h2 : y = x ∨ y ∈ a := by simpa using (h y).2 (by simp)
      rcases h1 with h1 | h1
      · exact h1
      · rcases h2 with h2 | h2
        · exact h2.symm
        · have := ha.1 y h2
          have := hb.1 x h1
          omega
    subst hxy
    congr 1
    refine rising_ext a b ha.2 hb.2 fun z => ?_
    have hz := h z
    simp only [List.mem_cons] at hz
    constructor
    · intro hza
      rcases hz.1 (.inr hza) with rfl | hzb
      · have := ha.1 z hza; omega
      · exact hzb
    · intro hzb
      rcases hz.2 (.inr hzb) with rfl | hza
      · have := hb.1 z hzb; omega
      · exact hza
theorem misS_eq {lt : List Int} {nt : Nat} (hb : ∀ x ∈ lt, 0 ≤ x ∧ x ≤ 5) : misS nt [] lt = misL lt nt := by
  refine rising_ext _ _ (misS_rise nt lt [] List.Pairwise.nil) (filN_rise _ _) fun x => ?_
  rw [misS_mem]
  unfold misL
  rw [filN_mem]
  constructor
  · rintro (h | ⟨h, h'⟩)
    · cases h
    · have := hb x h
      refine ⟨x.toNat, by omega, by omega, ?_⟩
      simp only [misB, Bool.and_eq_true, decide_eq_true_iff]
      have e : ((x.toNat : Nat) : Int) = x := by omega
      exact ⟨by omega, (hasB_iff _ _).2 (by rw [e]; exact h)⟩
  · rintro ⟨j, hj, rfl, hm⟩
    simp only [misB, Bool.and_eq_true, decide_eq_true_iff] at hm
    exact .inr ⟨(hasB_iff _ _).1 hm.2, by omega⟩

end Go.Proofs.YtmolpkjdjkhnpaaGreatDoor

/-
  New lists of numbers: none, one more; a call's answer that is a list and whether there is one.
-/
namespace Go.Proofs.YtmolpkjdjkhnpaaGreatDoor
open Go.RowKit

/-- A new list of numbers and true, or none and false. -/
def ListPostI (ok : Bool) (l : List Int) (w : World) (e : Ending) (w' : World) : Prop :=
  ∃ v, e = .returned (.tuple #[v, .bool ok]) ∧ OwnI w' w.heap.size v (if ok = true then l else []) ∧ Kp w w'
theorem OwnI.nil (w : World) (base : Nat) : OwnI w base (.slice none 0 0) [] := World.ownsRow_nil w base _ 1
theorem ListPostI.no {l : List Int} {w w' : World} (hk : Kp w w') : ListPostI false l w (.returned (.tuple #[.slice none 0 0, .bool false])) w' := ⟨_, rfl, OwnI.nil _ _, hk⟩
theorem OwnI.snoc {w : World} {base : Nat} {v : Value} {l : List Int} {x : Int} (h : w.ownsRow base 3 1 v (l.length + 1) (cellsI l ++ [.int .i64 x])) : OwnI w base v (l ++ [x]) := by
  unfold OwnI cellsI
  rw [List.map_append, List.length_append]
  exact h
theorem one_cell (w : World) (x : Value) (t : TypeId) : ∀ j u, [x][j]? = some u → (w.alloc (.cells #[x] t)).cell? ((⟨w.heap.size, 0, none⟩ : Addr).add j) = some u := by
  intro j u hj
  match j, hj with
  | 0, hj => simp at hj; subst hj; simp [Addr.add]

end Go.Proofs.YtmolpkjdjkhnpaaGreatDoor

/-
  Names, the program's test and the reference's; slices of strings as lists: places of a string, whether it is there, and whether all names are valid and differ. Nothing that was there is changed.
-/
namespace Go.Proofs.YtmolpkjdjkhnpaaGreatDoor
open Go.RowKit

theorem low_step {s : ByteArray} {k : Nat} (h : k < s.size) : s.data.toList.drop k = s[k] :: s.data.toList.drop (k + 1) := by
  rw [List.drop_eq_getElem_cons (by simpa using h)]
  rfl
theorem low_no {c : UInt8} {l : List UInt8} (h : lowB c = false) : lowFrom (c :: l) = false := by simp [lowFrom, h]
theorem low_go {c : UInt8} {l : List UInt8} (h : lowB c = true) : lowFrom (c :: l) = lowFrom l := by simp [lowFrom, h]

set_option maxHeartbeats 400000 in
theorem isName_any (s : ByteArray) (w : World) :
    Calls Tryz.prog 97 #[.string s] w fun e w' => e = .returned (.bool (nameOk s)) ∧ w = w' := by
  by_cases h0 : s.size = 0
  · have e : nameOk s = false := by simp [nameOk, spB, h0]
    rw [e]
    have h1 : s.toList = [] := by rw [ByteArray.toList_eq]; exact List.eq_nil_of_length_eq_zero (by simpa using h0)
    have h2 : s = ByteArray.empty := ByteArray.ext (Array.toList_inj.1 (by rw [ByteArray.toList_eq] at h1; rw [h1]; rfl))
    subst h2
    clear h0 h1 e
    go_enter Tryz.func97, Tryz.ntmps97
    go_wp2
    go_ret
    exact ⟨rfl, rfl⟩
  · by_cases h8 : 8 < s.size
    · have e : nameOk s = false := by simp [nameOk, spB]; omega
      rw [e]
      have hz : ((s.size : Int) == 0) = false := by simpa using h0
      clear e h0
      go_enter Tryz.func97, Tryz.ntmps97
      go_wp2
      go_ret
      exact ⟨rfl, rfl⟩
    · have e : nameOk s = lowFrom s.data.toList := by
        have : spB 1 8 s.size = true := by simp [spB]; omega
        simp [nameOk, this]
      rw [e]
      obtain ⟨R, hR⟩ : ∃ R, R = lowFrom s.data.toList := ⟨_, rfl⟩
      rw [← hR]
      have HR := Lib.hid hR
      have hz : ((s.size : Int) == 0) = false := by simpa using h0
      have h8' : decide (8 < s.size) = false := by simpa using h8
      clear e hR h0
      go_enter Tryz.func97, Tryz.ntmps97
      go_wp2
      go_loop [3, 14] (fun _ i => ∃ k : Nat, k ≤ s.size ∧ i = .int .i64 k ∧ Hid (lowFrom (s.data.toList.drop k) = R)) (fun _ i => s.size - (intOf i).toNat)
      case atStart => exact ⟨0, by omega, rfl, Lib.hid HR.out.symm⟩
      case round =>
        obtain ⟨k, hk, rfl, hE⟩ := hrel
        by_cases hlt : k < s.size
        · have HX := Lib.hid (low_step hlt)
          cases hok : lowB s[k]
          · have HE2 : Hid (R = false) := Lib.hid (by rw [← hE.out, HX.out]; exact low_no hok)
            have hd : s[k].toNat < 97 ∨ 122 < s[k].toNat := by simp [lowB] at hok; omega
            clear hok
            rcases hd with hd | hd
            · go_wp2
              go_ret
              exact ⟨ret_bool HE2.out.symm, rfl⟩
            · have hd2 : ¬ s[k].toNat < 97 := by omega
              go_wp2
              go_ret
              exact ⟨ret_bool HE2.out.symm, rfl⟩
          · have HE2 : Hid (lowFrom (s.data.toList.drop (k + 1)) = R) := Lib.hid (by rw [← hE.out, HX.out]; exact (low_go hok).symm)
            have hd : ¬ s[k].toNat < 97 ∧ ¬ 122 < s[k].toNat := by simp [lowB] at hok; omega
            obtain ⟨hd1, hd2⟩ := hd
            clear hok
            go_wp2
            go_round
            case rel => exact ⟨k + 1, by omega, by go_num, HE2⟩
            case measure => simp [intOf]; omega
        · obtain rfl : k = s.size := by omega
          go_wp2
          go_ret
          refine ⟨ret_bool ?_, rfl⟩
          rw [← hE.out, List.drop_of_length_le (by simp)]
          rfl

end Go.Proofs.YtmolpkjdjkhnpaaGreatDoor

/-
  The reference's test of a name; slices of strings as lists: the place of a string, whether it is there, and whether all names are valid and differ. Nothing that was there is changed.
-/
namespace Go.Proofs.YtmolpkjdjkhnpaaGreatDoor
open Go.RowKit

set_option maxHeartbeats 400000 in
theorem rName_any (s : ByteArray) (w : World) (hs : s.size ≤ 1048576) :
    Calls Tryz.prog 60 #[.string s] w fun e w' => e = .returned (.bool (nameOk s)) ∧ w = w' := by
  obtain ⟨R, hR⟩ : ∃ R, R = lowFrom s.data.toList := ⟨_, rfl⟩
  have e : nameOk s = (spB 1 8 s.size && R) := by rw [hR]; rfl
  rw [e]
  have HR := Lib.hid hR
  clear e hR
  go_enter Tryz.func60, Tryz.ntmps60
  go_wp2_with fail
  go_loop [3] (fun i => ∃ k : Nat, k ≤ s.size ∧ i = .int .i64 k ∧ Hid (lowFrom (s.data.toList.drop k) = R)) (fun i => s.size - (intOf i).toNat)
  case atStart => exact ⟨0, by omega, rfl, Lib.hid HR.out.symm⟩
  case round =>
    obtain ⟨k, hk, rfl, hE⟩ := hrel
    by_cases hlt : k < s.size
    · have HX := Lib.hid (low_step hlt)
      cases hok : lowB s[k]
      · have HE2 : Hid (R = false) := Lib.hid (by rw [← hE.out, HX.out]; exact low_no hok)
        have hd : s[k].toNat < 97 ∨ 122 < s[k].toNat := by simp [lowB] at hok; omega
        clear hok
        rcases hd with hd | hd
        · go_wp2_with fail
          go_ret
          exact ⟨ret_bool (by rw [HE2.out, Bool.and_false]), rfl⟩
        · have hd2 : ¬ s[k].toNat < 97 := by omega
          go_wp2_with fail
          go_ret
          exact ⟨ret_bool (by rw [HE2.out, Bool.and_false]), rfl⟩
      · have HE2 : Hid (lowFrom (s.data.toList.drop (k + 1)) = R) := Lib.hid (by rw [← hE.out, HX.out]; exact (low_go hok).symm)
        have hd : ¬ s[k].toNat < 97 ∧ ¬ 122 < s[k].toNat := by simp [lowB] at hok; omega
        obtain ⟨hd1, hd2⟩ := hd
        clear hok
        go_wp2_with fail
        go_round
        case rel => exact ⟨k + 1, by omega, by go_num, HE2⟩
        case measure => simp [intOf]; omega
    · obtain rfl : k = s.size := by omega
      have HR1 : Hid (R = true) := Lib.hid (by
        rw [← hE.out, List.drop_of_length_le (by simp)]
        rfl)
      go_wp2_with fail
      refine (l1In_sp _ _ _ _).mono ?_
      rintro e w1 ⟨rfl, rfl⟩
      go_wp2_with fail
      go_ret
      exact ⟨ret_bool (by rw [HR1.out, Bool.and_true]), rfl⟩

/-- The slice v reads as the list l of strings. -/
def RdS (w : World) (v : Value) (l : List ByteArray) : Prop :=
  ∃ A c, v = .slice A l.length c ∧ (0 < l.length → ∃ g off, A = some ⟨g, off, none⟩ ∧ ∀ i x, l[i]? = some x → w.cell? ⟨g, off + i, none⟩ = some (.string x))
theorem RdS.keep {w w' : World} {v : Value} {l : List ByteArray} (h : RdS w v l) (hk : Kp w w') : RdS w' v l := by
  obtain ⟨A, c, rfl, h⟩ := h
  refine ⟨A, c, rfl, fun h0 => ?_⟩
  obtain ⟨g, off, rfl, hc⟩ := h h0
  exact ⟨g, off, rfl, fun i x hx => hk.cell (hc i x hx)⟩

theorem getD_of {l : List ByteArray} {k : Nat} {x : ByteArray} (h : l[k]? = some x) : l.getD k ByteArray.empty = x := by simp [List.getD, h]
theorem idxS_hit {l : List ByteArray} {k : Nat} {x : ByteArray} (h : l[k]? = some x) (hn : ∀ j, j < k → l.getD j ByteArray.empty ≠ x) : idxS l x = k := by
  have := idxS_first (l := l) (k := k) (lt_of_at h) (fun j hj => by rw [getD_of h]; exact hn j hj)
  rwa [getD_of h] at this
theorem idxS_miss {l : List ByteArray} {x : ByteArray} (hn : ∀ j, j < l.length → l.getD j ByteArray.empty ≠ x) : idxS l x = -1 := by
  have := Lib.idxOfS_miss l l.length x hn
  rwa [List.take_length] at this
theorem not_more {l : List ByteArray} {k : Nat} {x m : ByteArray} (h : l[k]? = some x) (hne : x ≠ m) (hn : ∀ j, j < k → l.getD j ByteArray.empty ≠ m) : ∀ j, j < k + 1 → l.getD j ByteArray.empty ≠ m := fun j hj => by
  rcases Nat.lt_or_ge j k with h1 | h1
  · exact hn j h1
  · obtain rfl : j = k := by omega
    rw [getD_of h]
    exact hne

theorem indexS_any (v : Value) (l : List ByteArray) (m : ByteArray) (w : World) (h : RdS w v l) (hl : l.length ≤ 1048576) :
    Calls Tryz.prog 114 #[v, .string m] w fun e w' => e = .returned (.int .i64 (idxS l m)) ∧ w = w' := by
  obtain ⟨A, cp, rfl, h⟩ := h
  have HA := Lib.hid h
  obtain ⟨R, hR⟩ : ∃ R, R = idxS l m := ⟨_, rfl⟩
  rw [← hR]
  have HR := Lib.hid hR
  clear h hR
  generalize hn : l.length = n at *
  have HN := Lib.hid hn
  clear hn
  go_enter Tryz.func114, Tryz.ntmps114
  go_wp2_with fail
  go_loop [5, 8] (fun _ i => ∃ k : Nat, k ≤ n ∧ i = .int .i64 k ∧ Hid (∀ j, j < k → l.getD j ByteArray.empty ≠ m)) (fun _ i => n - (intOf i).toNat)
  case atStart => exact ⟨0, by omega, rfl, Lib.hid fun j hj => absurd hj (by omega)⟩
  case round =>
    obtain ⟨k, hk, rfl, hE⟩ := hrel
    by_cases hlt : k < n
    · obtain ⟨g, off, rfl, hc⟩ := HA.out (by omega)
      obtain ⟨x, hx⟩ : ∃ x, l[k]? = some x := ⟨l[k]'(by have := HN.out; omega), List.getElem?_eq_getElem _⟩
      have a0 := hc k x hx
      have HX := Lib.hid hx
      clear hc hx
      have hlt' : (k : Int) < n := by omega
      by_cases hok : x = m
      · have HE2 : Hid (R = (k : Int)) := Lib.hid (by rw [HR.out]; exact idxS_hit (by rw [← hok]; exact HX.out) hE.out)
        have he : (m.toList == x.toList) = true := (Lib.bytes_beq_iff m x).2 hok.symm
        clear hok
        go_wp2_with fail
        go_ret
        exact ⟨ret_int HE2.out.symm, rfl⟩
      · have HE2 := Lib.hid (not_more HX.out hok hE.out)
        have he : (m.toList == x.toList) = false := (Lib.bytes_beq_false_iff m x).2 (fun e => hok e.symm)
        clear hok
        go_wp2_with fail
        go_round
        case rel => exact ⟨k + 1, by omega, by go_num, HE2⟩
        case measure => simp [intOf]; omega
    · obtain rfl : k = n := by omega
      go_wp2_with fail
      go_ret
      refine ⟨ret_int ?_, rfl⟩
      rw [HR.out, idxS_miss (fun j hj => hE.out j (by have := HN.out; omega))]

theorem containsS_any (v : Value) (l : List ByteArray) (m : ByteArray) (w : World) (h : RdS w v l) (hl : l.length ≤ 1048576) :
    Calls Tryz.prog 98 #[v, .string m] w fun e w' => e = .returned (.bool (hasS l m)) ∧ w = w' := by
  obtain ⟨R, hR⟩ : ∃ R, R = idxS l m := ⟨_, rfl⟩
  have e : hasS l m = decide (0 ≤ R) := by rw [hR]; rfl
  have C := indexS_any v l m w h hl
  rw [← hR] at C
  rw [e]
  have HC := Lib.hid C
  clear hR C h e
  go_enter Tryz.func98, Tryz.ntmps98
  go_wp2_with fail
  refine HC.out.mono ?_
  rintro e w1 ⟨rfl, rfl⟩
  go_wp2_with fail
  go_ret
  exact ⟨rfl, rfl⟩

theorem nameAt_of {l : List ByteArray} {k : Nat} {x : ByteArray} (h : l[k]? = some x) : nameAt l k = (nameOk x && !hasS (l.take k) x) := by unfold nameAt; rw [getD_of h]
theorem names_more {l : List ByteArray} {k : Nat} (h : nameAt l k = true) (hn : ∀ j, j < k → nameAt l j = true) : ∀ j, j < k + 1 → nameAt l j = true := fun j hj => by
  rcases Nat.lt_or_ge j k with h1 | h1
  · exact hn j h1
  · obtain rfl : j = k := by omega
    exact h
theorem rdS_take {w : World} {l : List ByteArray} {g off k c : Nat} (hk : k ≤ l.length) (hc : ∀ i x, l[i]? = some x → w.cell? ⟨g, off + i, none⟩ = some (.string x)) : RdS w (.slice (some ⟨g, off, none⟩) k c) (l.take k) := by
  have e : (l.take k).length = k := by rw [List.length_take]; omega
  refine ⟨some ⟨g, off, none⟩, c, by rw [e], fun _ => ⟨g, off, rfl, fun i x hx => ?_⟩⟩
  rw [List.getElem?_take] at hx
  split at hx
  · exact hc i x hx
  · cases hx

set_option maxHeartbeats 1000000 in
theorem areNames_any (A : Option Addr) (n c : Nat) (l : List ByteArray) (w : World) (hn : l.length = n) (h : RdS w (.slice A n c) l) (hl : n ≤ 1048576) (hnc : n ≤ c) (hcc : c ≤ 9223372036854775807) :
    Calls Tryz.prog 87 #[.slice A n c] w fun e w' => e = .returned (.bool (namesOk l)) ∧ w = w' := by
  have HA : Hid (0 < n → ∃ g off, A = some ⟨g, off, none⟩ ∧ ∀ i x, l[i]? = some x → w.cell? ⟨g, off + i, none⟩ = some (.string x)) := Lib.hid (by
    obtain ⟨A', c', e, h⟩ := h
    simp only [Value.slice.injEq] at e
    obtain ⟨rfl, _, _⟩ := e
    rw [hn] at h
    exact h)
  obtain ⟨R, hR⟩ : ∃ R, R = namesOk l := ⟨_, rfl⟩
  rw [← hR]
  have HR := Lib.hid hR
  have HN := Lib.hid hn
  clear h hR hn
  go_enter Tryz.func87, Tryz.ntmps87
  go_wp2_with fail
  go_loop [3, 4, 7] (fun _ _ i => ∃ k : Nat, k ≤ n ∧ i = .int .i64 k ∧ Hid (∀ j, j < k → nameAt l j = true)) (fun _ _ i => n - (intOf i).toNat)
  case atStart => exact ⟨0, by omega, rfl, Lib.hid fun j hj => absurd hj (by omega)⟩
  case round =>
    obtain ⟨k, hk, rfl, hE⟩ := hrel
    by_cases hlt : k < n
    · obtain ⟨g, off, rfl, hc⟩ := HA.out (by omega)
      obtain ⟨x, hx⟩ : ∃ x, l[k]? = some x := ⟨l[k]'(by have := HN.out; omega), List.getElem?_eq_getElem _⟩
      have a0 := hc k x hx
      have HX := Lib.hid hx
      have HT := Lib.hid (rdS_take (w := w) (l := l) (g := g) (off := off) (k := k) (c := c) (by have := HN.out; omega) hc)
      have hlT : (l.take k).length ≤ 1048576 := by rw [List.length_take]; omega
      clear hc hx
      have hlt' : (k : Int) < n := by omega
      cases h1 : nameOk x
      · have HE2 : Hid (R = false) := Lib.hid (by rw [HR.out]; unfold namesOk; exact allN_no (k := k) (by have := HN.out; omega) (by rw [nameAt_of HX.out, h1]; rfl))
        go_wp2_with fail
        refine (isName_any _ _).mono ?_
        rintro e w1 ⟨rfl, rfl⟩
        go_wp2_with fail
        go_ret
        exact ⟨ret_bool HE2.out.symm, rfl⟩
      · cases h2 : hasS (l.take k) x
        · have HE2 := Lib.hid (names_more (by rw [nameAt_of HX.out, h1, h2]; rfl) hE.out)
          go_wp2_with fail
          refine (isName_any _ _).mono ?_
          rintro e w1 ⟨rfl, rfl⟩
          go_wp2_with fail
          refine (containsS_any _ (l.take k) _ _ HT.out hlT).mono ?_
          rintro e w1 ⟨rfl, rfl⟩
          go_wp2_with fail
          go_round
          case rel => exact ⟨k + 1, by omega, by go_num, HE2⟩
          case measure => simp [intOf]; omega
        · have HE2 : Hid (R = false) := Lib.hid (by rw [HR.out]; unfold namesOk; exact allN_no (k := k) (by have := HN.out; omega) (by rw [nameAt_of HX.out, h1, h2]; rfl))
          go_wp2_with fail
          refine (isName_any _ _).mono ?_
          rintro e w1 ⟨rfl, rfl⟩
          go_wp2_with fail
          refine (containsS_any _ (l.take k) _ _ HT.out hlT).mono ?_
          rintro e w1 ⟨rfl, rfl⟩
          go_wp2_with fail
          go_ret
          exact ⟨ret_bool HE2.out.symm, rfl⟩
    · obtain rfl : k = n := by omega
      go_wp2_with fail
      go_ret
      refine ⟨ret_bool ?_, rfl⟩
      rw [HR.out]
      unfold namesOk
      exact (allN_mk fun j hj => hE.out j (by have := HN.out; omega)).symm

end Go.Proofs.YtmolpkjdjkhnpaaGreatDoor

/-
  A range of permitted numbers: whether a number lies in it, and a variable that holds one.
-/
namespace Go.Proofs.YtmolpkjdjkhnpaaGreatDoor
open Go.RowKit

theorem has_any (lo hi n : Int) (w : World) :
    Calls Tryz.prog 83 #[.agg #[.int .i64 lo, .int .i64 hi], .int .i64 n] w fun e w' => e = .returned (.bool (spB lo hi n)) ∧ Kp w w' := by
  by_cases h1 : lo ≤ n
  · by_cases h2 : n ≤ hi
    · go_enter Tryz.func83, Tryz.ntmps83
      go_wp2
      go_ret
      exact ⟨ret_bool (by simp [spB, h1, h2]), (Kp.refl _).alloc _⟩
    · have hd : decide (n ≤ hi) = false := by simpa using h2
      go_enter Tryz.func83, Tryz.ntmps83
      go_wp2
      go_ret
      exact ⟨ret_bool (by simp [spB]; omega), (Kp.refl _).alloc _⟩
  · have hd : decide (lo ≤ n) = false := by simpa using h1
    go_enter Tryz.func83, Tryz.ntmps83
    go_wp2
    go_ret
    exact ⟨ret_bool (by simp [spB]; omega), (Kp.refl _).alloc _⟩

def SpanAt (w : World) (g : Nat) (lo hi : Int) : Prop := w.cell? ⟨g, 0, none⟩ = some (.int .i64 lo) ∧ w.cell? ⟨g, 1, none⟩ = some (.int .i64 hi)

end Go.Proofs.YtmolpkjdjkhnpaaGreatDoor

/-
  The program's ranges of permitted numbers: what its variables hold, and the functions that ask whether numbers lie in them. Nothing that was there is changed.
-/
namespace Go.Proofs.YtmolpkjdjkhnpaaGreatDoor
open Go.RowKit

/-- The program's ranges, as its text lays them. -/
structure Spans (w : World) : Prop where
  terrains : SpanAt w 0 1 6
  cost : SpanAt w 7 0 9
  shift : SpanAt w 8 (-3) 3
  height : SpanAt w 9 0 3
  kinds : SpanAt w 1 1 4
  strength : SpanAt w 10 1 9
  moves : SpanAt w 11 0 9
  steps : SpanAt w 12 1 4
  view : SpanAt w 13 0 4
  stack : SpanAt w 2 1 4
  river : SpanAt w 3 0 9
  road : SpanAt w 4 1 9
  supply : SpanAt w 5 0 20
  turns : SpanAt w 6 1 30
theorem Spans.keep {w w' : World} (h : Spans w) (k : Kp w w') : Spans w' :=
  ⟨⟨k.cell h.terrains.1, k.cell h.terrains.2⟩, ⟨k.cell h.cost.1, k.cell h.cost.2⟩, ⟨k.cell h.shift.1, k.cell h.shift.2⟩, ⟨k.cell h.height.1, k.cell h.height.2⟩, ⟨k.cell h.kinds.1, k.cell h.kinds.2⟩, ⟨k.cell h.strength.1, k.cell h.strength.2⟩, ⟨k.cell h.moves.1, k.cell h.moves.2⟩, ⟨k.cell h.steps.1, k.cell h.steps.2⟩, ⟨k.cell h.view.1, k.cell h.view.2⟩, ⟨k.cell h.stack.1, k.cell h.stack.2⟩, ⟨k.cell h.river.1, k.cell h.river.2⟩, ⟨k.cell h.road.1, k.cell h.road.2⟩, ⟨k.cell h.supply.1, k.cell h.supply.2⟩, ⟨k.cell h.turns.1, k.cell h.turns.2⟩⟩

abbrev rv (t k : Value) (a b c d e : Int) : Value := .agg #[t, k, .int .i64 a, .int .i64 b, .int .i64 c, .int .i64 d, .int .i64 e]

set_option maxRecDepth 100000 in
set_option maxHeartbeats 4000000 in
theorem lim_no1 (t k : Value) (a b c d e : Int) (w : World) (hs : Spans w) (h0 : spB 1 4 a = false) :
    Calls Tryz.prog 84 #[rv t k a b c d e] w fun e' w' => e' = .returned (.bool false) ∧ Kp w w' := by
  have s0 : (w.alloc (.cells #[t, k, .int .i64 a, .int .i64 b, .int .i64 c, .int .i64 d, .int .i64 e] 35)).cell? ⟨w.heap.size, 0, none⟩ = some (t) ∧ (w.alloc (.cells #[t, k, .int .i64 a, .int .i64 b, .int .i64 c, .int .i64 d, .int .i64 e] 35)).cell? ⟨w.heap.size, 1, none⟩ = some (k) ∧ (w.alloc (.cells #[t, k, .int .i64 a, .int .i64 b, .int .i64 c, .int .i64 d, .int .i64 e] 35)).cell? ⟨w.heap.size, 2, none⟩ = some (.int .i64 a) ∧ (w.alloc (.cells #[t, k, .int .i64 a, .int .i64 b, .int .i64 c, .int .i64 d, .int .i64 e] 35)).cell? ⟨w.heap.size, 3, none⟩ = some (.int .i64 b) ∧ (w.alloc (.cells #[t, k, .int .i64 a, .int .i64 b, .int .i64 c, .int .i64 d, .int .i64 e] 35)).cell? ⟨w.heap.size, 4, none⟩ = some (.int .i64 c) ∧ (w.alloc (.cells #[t, k, .int .i64 a, .int .i64 b, .int .i64 c, .int .i64 d, .int .i64 e] 35)).cell? ⟨w.heap.size, 5, none⟩ = some (.int .i64 d) ∧ (w.alloc (.cells #[t, k, .int .i64 a, .int .i64 b, .int .i64 c, .int .i64 d, .int .i64 e] 35)).cell? ⟨w.heap.size, 6, none⟩ = some (.int .i64 e) ∧ (w.alloc (.cells #[t, k, .int .i64 a, .int .i64 b, .int .i64 c, .int .i64 d, .int .i64 e] 35)).cell? ⟨2, 0, none⟩ = some (.int .i64 1) ∧ (w.alloc (.cells #[t, k, .int .i64 a, .int .i64 b, .int .i64 c, .int .i64 d, .int .i64 e] 35)).cell? ⟨2, 1, none⟩ = some (.int .i64 4) ∧ (w.alloc (.cells #[t, k, .int .i64 a, .int .i64 b, .int .i64 c, .int .i64 d, .int .i64 e] 35)).cell? ⟨3, 0, none⟩ = some (.int .i64 0) ∧ (w.alloc (.cells #[t, k, .int .i64 a, .int .i64 b, .int .i64 c, .int .i64 d, .int .i64 e] 35)).cell? ⟨3, 1, none⟩ = some (.int .i64 9) ∧ (w.alloc (.cells #[t, k, .int .i64 a, .int .i64 b, .int .i64 c, .int .i64 d, .int .i64 e] 35)).cell? ⟨4, 0, none⟩ = some (.int .i64 1) ∧ (w.alloc (.cells #[t, k, .int .i64 a, .int .i64 b, .int .i64 c, .int .i64 d, .int .i64 e] 35)).cell? ⟨4, 1, none⟩ = some (.int .i64 9) ∧ (w.alloc (.cells #[t, k, .int .i64 a, .int .i64 b, .int .i64 c, .int .i64 d, .int .i64 e] 35)).cell? ⟨5, 0, none⟩ = some (.int .i64 0) ∧ (w.alloc (.cells #[t, k, .int .i64 a, .int .i64 b, .int .i64 c, .int .i64 d, .int .i64 e] 35)).cell? ⟨5, 1, none⟩ = some (.int .i64 20) ∧ (w.alloc (.cells #[t, k, .int .i64 a, .int .i64 b, .int .i64 c, .int .i64 d, .int .i64 e] 35)).cell? ⟨6, 0, none⟩ = some (.int .i64 1) ∧ (w.alloc (.cells #[t, k, .int .i64 a, .int .i64 b, .int .i64 c, .int .i64 d, .int .i64 e] 35)).cell? ⟨6, 1, none⟩ = some (.int .i64 30) ∧ Kp w (w.alloc (.cells #[t, k, .int .i64 a, .int .i64 b, .int .i64 c, .int .i64 d, .int .i64 e] 35)) :=
    ⟨by simp [go_sem], by simp [go_sem], by simp [go_sem], by simp [go_sem], by simp [go_sem], by simp [go_sem], by simp [go_sem], ((Kp.refl w).alloc _).cell hs.stack.1, ((Kp.refl w).alloc _).cell hs.stack.2, ((Kp.refl w).alloc _).cell hs.river.1, ((Kp.refl w).alloc _).cell hs.river.2, ((Kp.refl w).alloc _).cell hs.road.1, ((Kp.refl w).alloc _).cell hs.road.2, ((Kp.refl w).alloc _).cell hs.supply.1, ((Kp.refl w).alloc _).cell hs.supply.2, ((Kp.refl w).alloc _).cell hs.turns.1, ((Kp.refl w).alloc _).cell hs.turns.2, (Kp.refl w).alloc _⟩
  clear hs
  go_enter Tryz.func84, Tryz.ntmps84
  go_wp2_with fail
  generalize w.alloc (.cells #[t, k, .int .i64 a, .int .i64 b, .int .i64 c, .int .i64 d, .int .i64 e] 35) = W0 at *
  refine (has_any _ _ _ _).mono ?_
  rintro e0 wz0 ⟨rfl, kz0⟩
  have sz0 : wz0.cell? ⟨w.heap.size, 0, none⟩ = some (t) ∧ wz0.cell? ⟨w.heap.size, 1, none⟩ = some (k) ∧ wz0.cell? ⟨w.heap.size, 2, none⟩ = some (.int .i64 a) ∧ wz0.cell? ⟨w.heap.size, 3, none⟩ = some (.int .i64 b) ∧ wz0.cell? ⟨w.heap.size, 4, none⟩ = some (.int .i64 c) ∧ wz0.cell? ⟨w.heap.size, 5, none⟩ = some (.int .i64 d) ∧ wz0.cell? ⟨w.heap.size, 6, none⟩ = some (.int .i64 e) ∧ wz0.cell? ⟨2, 0, none⟩ = some (.int .i64 1) ∧ wz0.cell? ⟨2, 1, none⟩ = some (.int .i64 4) ∧ wz0.cell? ⟨3, 0, none⟩ = some (.int .i64 0) ∧ wz0.cell? ⟨3, 1, none⟩ = some (.int .i64 9) ∧ wz0.cell? ⟨4, 0, none⟩ = some (.int .i64 1) ∧ wz0.cell? ⟨4, 1, none⟩ = some (.int .i64 9) ∧ wz0.cell? ⟨5, 0, none⟩ = some (.int .i64 0) ∧ wz0.cell? ⟨5, 1, none⟩ = some (.int .i64 20) ∧ wz0.cell? ⟨6, 0, none⟩ = some (.int .i64 1) ∧ wz0.cell? ⟨6, 1, none⟩ = some (.int .i64 30) ∧ Kp w wz0 := ⟨kz0.cell s0.1, kz0.cell s0.2.1, kz0.cell s0.2.2.1, kz0.cell s0.2.2.2.1, kz0.cell s0.2.2.2.2.1, kz0.cell s0.2.2.2.2.2.1, kz0.cell s0.2.2.2.2.2.2.1, kz0.cell s0.2.2.2.2.2.2.2.1, kz0.cell s0.2.2.2.2.2.2.2.2.1, kz0.cell s0.2.2.2.2.2.2.2.2.2.1, kz0.cell s0.2.2.2.2.2.2.2.2.2.2.1, kz0.cell s0.2.2.2.2.2.2.2.2.2.2.2.1, kz0.cell s0.2.2.2.2.2.2.2.2.2.2.2.2.1, kz0.cell s0.2.2.2.2.2.2.2.2.2.2.2.2.2.1, kz0.cell s0.2.2.2.2.2.2.2.2.2.2.2.2.2.2.1, kz0.cell s0.2.2.2.2.2.2.2.2.2.2.2.2.2.2.2.1, kz0.cell s0.2.2.2.2.2.2.2.2.2.2.2.2.2.2.2.2.1, s0.2.2.2.2.2.2.2.2.2.2.2.2.2.2.2.2.2.trans kz0⟩
  clear s0 kz0
  go_wp2_with fail
  go_ret
  exact ⟨rfl, sz0.2.2.2.2.2.2.2.2.2.2.2.2.2.2.2.2.2⟩

set_option maxRecDepth 100000 in
set_option maxHeartbeats 4000000 in
theorem lim_no2 (t k : Value) (a b c d e : Int) (w : World) (hs : Spans w) (h0 : spB 1 4 a = true) (h1 : spB 0 9 b = false) :
    Calls Tryz.prog 84 #[rv t k a b c d e] w fun e' w' => e' = .returned (.bool false) ∧ Kp w w' := by
  have s0 : (w.alloc (.cells #[t, k, .int .i64 a, .int .i64 b, .int .i64 c, .int .i64 d, .int .i64 e] 35)).cell? ⟨w.heap.size, 0, none⟩ = some (t) ∧ (w.alloc (.cells #[t, k, .int .i64 a, .int .i64 b, .int .i64 c, .int .i64 d, .int .i64 e] 35)).cell? ⟨w.heap.size, 1, none⟩ = some (k) ∧ (w.alloc (.cells #[t, k, .int .i64 a, .int .i64 b, .int .i64 c, .int .i64 d, .int .i64 e] 35)).cell? ⟨w.heap.size, 2, none⟩ = some (.int .i64 a) ∧ (w.alloc (.cells #[t, k, .int .i64 a, .int .i64 b, .int .i64 c, .int .i64 d, .int .i64 e] 35)).cell? ⟨w.heap.size, 3, none⟩ = some (.int .i64 b) ∧ (w.alloc (.cells #[t, k, .int .i64 a, .int .i64 b, .int .i64 c, .int .i64 d, .int .i64 e] 35)).cell? ⟨w.heap.size, 4, none⟩ = some (.int .i64 c) ∧ (w.alloc (.cells #[t, k, .int .i64 a, .int .i64 b, .int .i64 c, .int .i64 d, .int .i64 e] 35)).cell? ⟨w.heap.size, 5, none⟩ = some (.int .i64 d) ∧ (w.alloc (.cells #[t, k, .int .i64 a, .int .i64 b, .int .i64 c, .int .i64 d, .int .i64 e] 35)).cell? ⟨w.heap.size, 6, none⟩ = some (.int .i64 e) ∧ (w.alloc (.cells #[t, k, .int .i64 a, .int .i64 b, .int .i64 c, .int .i64 d, .int .i64 e] 35)).cell? ⟨2, 0, none⟩ = some (.int .i64 1) ∧ (w.alloc (.cells #[t, k, .int .i64 a, .int .i64 b, .int .i64 c, .int .i64 d, .int .i64 e] 35)).cell? ⟨2, 1, none⟩ = some (.int .i64 4) ∧ (w.alloc (.cells #[t, k, .int .i64 a, .int .i64 b, .int .i64 c, .int .i64 d, .int .i64 e] 35)).cell? ⟨3, 0, none⟩ = some (.int .i64 0) ∧ (w.alloc (.cells #[t, k, .int .i64 a, .int .i64 b, .int .i64 c, .int .i64 d, .int .i64 e] 35)).cell? ⟨3, 1, none⟩ = some (.int .i64 9) ∧ (w.alloc (.cells #[t, k, .int .i64 a, .int .i64 b, .int .i64 c, .int .i64 d, .int .i64 e] 35)).cell? ⟨4, 0, none⟩ = some (.int .i64 1) ∧ (w.alloc (.cells #[t, k, .int .i64 a, .int .i64 b, .int .i64 c, .int .i64 d, .int .i64 e] 35)).cell? ⟨4, 1, none⟩ = some (.int .i64 9) ∧ (w.alloc (.cells #[t, k, .int .i64 a, .int .i64 b, .int .i64 c, .int .i64 d, .int .i64 e] 35)).cell? ⟨5, 0, none⟩ = some (.int .i64 0) ∧ (w.alloc (.cells #[t, k, .int .i64 a, .int .i64 b, .int .i64 c, .int .i64 d, .int .i64 e] 35)).cell? ⟨5, 1, none⟩ = some (.int .i64 20) ∧ (w.alloc (.cells #[t, k, .int .i64 a, .int .i64 b, .int .i64 c, .int .i64 d, .int .i64 e] 35)).cell? ⟨6, 0, none⟩ = some (.int .i64 1) ∧ (w.alloc (.cells #[t, k, .int .i64 a, .int .i64 b, .int .i64 c, .int .i64 d, .int .i64 e] 35)).cell? ⟨6, 1, none⟩ = some (.int .i64 30) ∧ Kp w (w.alloc (.cells #[t, k, .int .i64 a, .int .i64 b, .int .i64 c, .int .i64 d, .int .i64 e] 35)) :=
    ⟨by simp [go_sem], by simp [go_sem], by simp [go_sem], by simp [go_sem], by simp [go_sem], by simp [go_sem], by simp [go_sem], ((Kp.refl w).alloc _).cell hs.stack.1, ((Kp.refl w).alloc _).cell hs.stack.2, ((Kp.refl w).alloc _).cell hs.river.1, ((Kp.refl w).alloc _).cell hs.river.2, ((Kp.refl w).alloc _).cell hs.road.1, ((Kp.refl w).alloc _).cell hs.road.2, ((Kp.refl w).alloc _).cell hs.supply.1, ((Kp.refl w).alloc _).cell hs.supply.2, ((Kp.refl w).alloc _).cell hs.turns.1, ((Kp.refl w).alloc _).cell hs.turns.2, (Kp.refl w).alloc _⟩
  clear hs
  go_enter Tryz.func84, Tryz.ntmps84
  go_wp2_with fail
  generalize w.alloc (.cells #[t, k, .int .i64 a, .int .i64 b, .int .i64 c, .int .i64 d, .int .i64 e] 35) = W0 at *
  refine (has_any _ _ _ _).mono ?_
  rintro e0 wz0 ⟨rfl, kz0⟩
  have sz0 : wz0.cell? ⟨w.heap.size, 0, none⟩ = some (t) ∧ wz0.cell? ⟨w.heap.size, 1, none⟩ = some (k) ∧ wz0.cell? ⟨w.heap.size, 2, none⟩ = some (.int .i64 a) ∧ wz0.cell? ⟨w.heap.size, 3, none⟩ = some (.int .i64 b) ∧ wz0.cell? ⟨w.heap.size, 4, none⟩ = some (.int .i64 c) ∧ wz0.cell? ⟨w.heap.size, 5, none⟩ = some (.int .i64 d) ∧ wz0.cell? ⟨w.heap.size, 6, none⟩ = some (.int .i64 e) ∧ wz0.cell? ⟨2, 0, none⟩ = some (.int .i64 1) ∧ wz0.cell? ⟨2, 1, none⟩ = some (.int .i64 4) ∧ wz0.cell? ⟨3, 0, none⟩ = some (.int .i64 0) ∧ wz0.cell? ⟨3, 1, none⟩ = some (.int .i64 9) ∧ wz0.cell? ⟨4, 0, none⟩ = some (.int .i64 1) ∧ wz0.cell? ⟨4, 1, none⟩ = some (.int .i64 9) ∧ wz0.cell? ⟨5, 0, none⟩ = some (.int .i64 0) ∧ wz0.cell? ⟨5, 1, none⟩ = some (.int .i64 20) ∧ wz0.cell? ⟨6, 0, none⟩ = some (.int .i64 1) ∧ wz0.cell? ⟨6, 1, none⟩ = some (.int .i64 30) ∧ Kp w wz0 := ⟨kz0.cell s0.1, kz0.cell s0.2.1, kz0.cell s0.2.2.1, kz0.cell s0.2.2.2.1, kz0.cell s0.2.2.2.2.1, kz0.cell s0.2.2.2.2.2.1, kz0.cell s0.2.2.2.2.2.2.1, kz0.cell s0.2.2.2.2.2.2.2.1, kz0.cell s0.2.2.2.2.2.2.2.2.1, kz0.cell s0.2.2.2.2.2.2.2.2.2.1, kz0.cell s0.2.2.2.2.2.2.2.2.2.2.1, kz0.cell s0.2.2.2.2.2.2.2.2.2.2.2.1, kz0.cell s0.2.2.2.2.2.2.2.2.2.2.2.2.1, kz0.cell s0.2.2.2.2.2.2.2.2.2.2.2.2.2.1, kz0.cell s0.2.2.2.2.2.2.2.2.2.2.2.2.2.2.1, kz0.cell s0.2.2.2.2.2.2.2.2.2.2.2.2.2.2.2.1, kz0.cell s0.2.2.2.2.2.2.2.2.2.2.2.2.2.2.2.2.1, s0.2.2.2.2.2.2.2.2.2.2.2.2.2.2.2.2.2.trans kz0⟩
  clear s0 kz0
  go_wp2_with fail
  refine (has_any _ _ _ _).mono ?_
  rintro e1 wz1 ⟨rfl, kz1⟩
  have sz1 : wz1.cell? ⟨w.heap.size, 0, none⟩ = some (t) ∧ wz1.cell? ⟨w.heap.size, 1, none⟩ = some (k) ∧ wz1.cell? ⟨w.heap.size, 2, none⟩ = some (.int .i64 a) ∧ wz1.cell? ⟨w.heap.size, 3, none⟩ = some (.int .i64 b) ∧ wz1.cell? ⟨w.heap.size, 4, none⟩ = some (.int .i64 c) ∧ wz1.cell? ⟨w.heap.size, 5, none⟩ = some (.int .i64 d) ∧ wz1.cell? ⟨w.heap.size, 6, none⟩ = some (.int .i64 e) ∧ wz1.cell? ⟨2, 0, none⟩ = some (.int .i64 1) ∧ wz1.cell? ⟨2, 1, none⟩ = some (.int .i64 4) ∧ wz1.cell? ⟨3, 0, none⟩ = some (.int .i64 0) ∧ wz1.cell? ⟨3, 1, none⟩ = some (.int .i64 9) ∧ wz1.cell? ⟨4, 0, none⟩ = some (.int .i64 1) ∧ wz1.cell? ⟨4, 1, none⟩ = some (.int .i64 9) ∧ wz1.cell? ⟨5, 0, none⟩ = some (.int .i64 0) ∧ wz1.cell? ⟨5, 1, none⟩ = some (.int .i64 20) ∧ wz1.cell? ⟨6, 0, none⟩ = some (.int .i64 1) ∧ wz1.cell? ⟨6, 1, none⟩ = some (.int .i64 30) ∧ Kp w wz1 := ⟨kz1.cell sz0.1, kz1.cell sz0.2.1, kz1.cell sz0.2.2.1, kz1.cell sz0.2.2.2.1, kz1.cell sz0.2.2.2.2.1, kz1.cell sz0.2.2.2.2.2.1, kz1.cell sz0.2.2.2.2.2.2.1, kz1.cell sz0.2.2.2.2.2.2.2.1, kz1.cell sz0.2.2.2.2.2.2.2.2.1, kz1.cell sz0.2.2.2.2.2.2.2.2.2.1, kz1.cell sz0.2.2.2.2.2.2.2.2.2.2.1, kz1.cell sz0.2.2.2.2.2.2.2.2.2.2.2.1, kz1.cell sz0.2.2.2.2.2.2.2.2.2.2.2.2.1, kz1.cell sz0.2.2.2.2.2.2.2.2.2.2.2.2.2.1, kz1.cell sz0.2.2.2.2.2.2.2.2.2.2.2.2.2.2.1, kz1.cell sz0.2.2.2.2.2.2.2.2.2.2.2.2.2.2.2.1, kz1.cell sz0.2.2.2.2.2.2.2.2.2.2.2.2.2.2.2.2.1, sz0.2.2.2.2.2.2.2.2.2.2.2.2.2.2.2.2.2.trans kz1⟩
  clear sz0 kz1
  go_wp2_with fail
  go_ret
  exact ⟨rfl, sz1.2.2.2.2.2.2.2.2.2.2.2.2.2.2.2.2.2⟩

set_option maxRecDepth 100000 in
set_option maxHeartbeats 4000000 in
theorem lim_no3 (t k : Value) (a b c d e : Int) (w : World) (hs : Spans w) (h0 : spB 1 4 a = true) (h1 : spB 0 9 b = true) (h2 : spB 1 9 c = false) :
    Calls Tryz.prog 84 #[rv t k a b c d e] w fun e' w' => e' = .returned (.bool false) ∧ Kp w w' := by
  have s0 : (w.alloc (.cells #[t, k, .int .i64 a, .int .i64 b, .int .i64 c, .int .i64 d, .int .i64 e] 35)).cell? ⟨w.heap.size, 0, none⟩ = some (t) ∧ (w.alloc (.cells #[t, k, .int .i64 a, .int .i64 b, .int .i64 c, .int .i64 d, .int .i64 e] 35)).cell? ⟨w.heap.size, 1, none⟩ = some (k) ∧ (w.alloc (.cells #[t, k, .int .i64 a, .int .i64 b, .int .i64 c, .int .i64 d, .int .i64 e] 35)).cell? ⟨w.heap.size, 2, none⟩ = some (.int .i64 a) ∧ (w.alloc (.cells #[t, k, .int .i64 a, .int .i64 b, .int .i64 c, .int .i64 d, .int .i64 e] 35)).cell? ⟨w.heap.size, 3, none⟩ = some (.int .i64 b) ∧ (w.alloc (.cells #[t, k, .int .i64 a, .int .i64 b, .int .i64 c, .int .i64 d, .int .i64 e] 35)).cell? ⟨w.heap.size, 4, none⟩ = some (.int .i64 c) ∧ (w.alloc (.cells #[t, k, .int .i64 a, .int .i64 b, .int .i64 c, .int .i64 d, .int .i64 e] 35)).cell? ⟨w.heap.size, 5, none⟩ = some (.int .i64 d) ∧ (w.alloc (.cells #[t, k, .int .i64 a, .int .i64 b, .int .i64 c, .int .i64 d, .int .i64 e] 35)).cell? ⟨w.heap.size, 6, none⟩ = some (.int .i64 e) ∧ (w.alloc (.cells #[t, k, .int .i64 a, .int .i64 b, .int .i64 c, .int .i64 d, .int .i64 e] 35)).cell? ⟨2, 0, none⟩ = some (.int .i64 1) ∧ (w.alloc (.cells #[t, k, .int .i64 a, .int .i64 b, .int .i64 c, .int .i64 d, .int .i64 e] 35)).cell? ⟨2, 1, none⟩ = some (.int .i64 4) ∧ (w.alloc (.cells #[t, k, .int .i64 a, .int .i64 b, .int .i64 c, .int .i64 d, .int .i64 e] 35)).cell? ⟨3, 0, none⟩ = some (.int .i64 0) ∧ (w.alloc (.cells #[t, k, .int .i64 a, .int .i64 b, .int .i64 c, .int .i64 d, .int .i64 e] 35)).cell? ⟨3, 1, none⟩ = some (.int .i64 9) ∧ (w.alloc (.cells #[t, k, .int .i64 a, .int .i64 b, .int .i64 c, .int .i64 d, .int .i64 e] 35)).cell? ⟨4, 0, none⟩ = some (.int .i64 1) ∧ (w.alloc (.cells #[t, k, .int .i64 a, .int .i64 b, .int .i64 c, .int .i64 d, .int .i64 e] 35)).cell? ⟨4, 1, none⟩ = some (.int .i64 9) ∧ (w.alloc (.cells #[t, k, .int .i64 a, .int .i64 b, .int .i64 c, .int .i64 d, .int .i64 e] 35)).cell? ⟨5, 0, none⟩ = some (.int .i64 0) ∧ (w.alloc (.cells #[t, k, .int .i64 a, .int .i64 b, .int .i64 c, .int .i64 d, .int .i64 e] 35)).cell? ⟨5, 1, none⟩ = some (.int .i64 20) ∧ (w.alloc (.cells #[t, k, .int .i64 a, .int .i64 b, .int .i64 c, .int .i64 d, .int .i64 e] 35)).cell? ⟨6, 0, none⟩ = some (.int .i64 1) ∧ (w.alloc (.cells #[t, k, .int .i64 a, .int .i64 b, .int .i64 c, .int .i64 d, .int .i64 e] 35)).cell? ⟨6, 1, none⟩ = some (.int .i64 30) ∧ Kp w (w.alloc (.cells #[t, k, .int .i64 a, .int .i64 b, .int .i64 c, .int .i64 d, .int .i64 e] 35)) :=
    ⟨by simp [go_sem], by simp [go_sem], by simp [go_sem], by simp [go_sem], by simp [go_sem], by simp [go_sem], by simp [go_sem], ((Kp.refl w).alloc _).cell hs.stack.1, ((Kp.refl w).alloc _).cell hs.stack.2, ((Kp.refl w).alloc _).cell hs.river.1, ((Kp.refl w).alloc _).cell hs.river.2, ((Kp.refl w).alloc _).cell hs.road.1, ((Kp.refl w).alloc _).cell hs.road.2, ((Kp.refl w).alloc _).cell hs.supply.1, ((Kp.refl w).alloc _).cell hs.supply.2, ((Kp.refl w).alloc _).cell hs.turns.1, ((Kp.refl w).alloc _).cell hs.turns.2, (Kp.refl w).alloc _⟩
  clear hs
  go_enter Tryz.func84, Tryz.ntmps84
  go_wp2_with fail
  generalize w.alloc (.cells #[t, k, .int .i64 a, .int .i64 b, .int .i64 c, .int .i64 d, .int .i64 e] 35) = W0 at *
  refine (has_any _ _ _ _).mono ?_
  rintro e0 wz0 ⟨rfl, kz0⟩
  have sz0 : wz0.cell? ⟨w.heap.size, 0, none⟩ = some (t) ∧ wz0.cell? ⟨w.heap.size, 1, none⟩ = some (k) ∧ wz0.cell? ⟨w.heap.size, 2, none⟩ = some (.int .i64 a) ∧ wz0.cell? ⟨w.heap.size, 3, none⟩ = some (.int .i64 b) ∧ wz0.cell? ⟨w.heap.size, 4, none⟩ = some (.int .i64 c) ∧ wz0.cell? ⟨w.heap.size, 5, none⟩ = some (.int .i64 d) ∧ wz0.cell? ⟨w.heap.size, 6, none⟩ = some (.int .i64 e) ∧ wz0.cell? ⟨2, 0, none⟩ = some (.int .i64 1) ∧ wz0.cell? ⟨2, 1, none⟩ = some (.int .i64 4) ∧ wz0.cell? ⟨3, 0, none⟩ = some (.int .i64 0) ∧ wz0.cell? ⟨3, 1, none⟩ = some (.int .i64 9) ∧ wz0.cell? ⟨4, 0, none⟩ = some (.int .i64 1) ∧ wz0.cell? ⟨4, 1, none⟩ = some (.int .i64 9) ∧ wz0.cell? ⟨5, 0, none⟩ = some (.int .i64 0) ∧ wz0.cell? ⟨5, 1, none⟩ = some (.int .i64 20) ∧ wz0.cell? ⟨6, 0, none⟩ = some (.int .i64 1) ∧ wz0.cell? ⟨6, 1, none⟩ = some (.int .i64 30) ∧ Kp w wz0 := ⟨kz0.cell s0.1, kz0.cell s0.2.1, kz0.cell s0.2.2.1, kz0.cell s0.2.2.2.1, kz0.cell s0.2.2.2.2.1, kz0.cell s0.2.2.2.2.2.1, kz0.cell s0.2.2.2.2.2.2.1, kz0.cell s0.2.2.2.2.2.2.2.1, kz0.cell s0.2.2.2.2.2.2.2.2.1, kz0.cell s0.2.2.2.2.2.2.2.2.2.1, kz0.cell s0.2.2.2.2.2.2.2.2.2.2.1, kz0.cell s0.2.2.2.2.2.2.2.2.2.2.2.1, kz0.cell s0.2.2.2.2.2.2.2.2.2.2.2.2.1, kz0.cell s0.2.2.2.2.2.2.2.2.2.2.2.2.2.1, kz0.cell s0.2.2.2.2.2.2.2.2.2.2.2.2.2.2.1, kz0.cell s0.2.2.2.2.2.2.2.2.2.2.2.2.2.2.2.1, kz0.cell s0.2.2.2.2.2.2.2.2.2.2.2.2.2.2.2.2.1, s0.2.2.2.2.2.2.2.2.2.2.2.2.2.2.2.2.2.trans kz0⟩
  clear s0 kz0
  go_wp2_with fail
  refine (has_any _ _ _ _).mono ?_
  rintro e1 wz1 ⟨rfl, kz1⟩
  have sz1 : wz1.cell? ⟨w.heap.size, 0, none⟩ = some (t) ∧ wz1.cell? ⟨w.heap.size, 1, none⟩ = some (k) ∧ wz1.cell? ⟨w.heap.size, 2, none⟩ = some (.int .i64 a) ∧ wz1.cell? ⟨w.heap.size, 3, none⟩ = some (.int .i64 b) ∧ wz1.cell? ⟨w.heap.size, 4, none⟩ = some (.int .i64 c) ∧ wz1.cell? ⟨w.heap.size, 5, none⟩ = some (.int .i64 d) ∧ wz1.cell? ⟨w.heap.size, 6, none⟩ = some (.int .i64 e) ∧ wz1.cell? ⟨2, 0, none⟩ = some (.int .i64 1) ∧ wz1.cell? ⟨2, 1, none⟩ = some (.int .i64 4) ∧ wz1.cell? ⟨3, 0, none⟩ = some (.int .i64 0) ∧ wz1.cell? ⟨3, 1, none⟩ = some (.int .i64 9) ∧ wz1.cell? ⟨4, 0, none⟩ = some (.int .i64 1) ∧ wz1.cell? ⟨4, 1, none⟩ = some (.int .i64 9) ∧ wz1.cell? ⟨5, 0, none⟩ = some (.int .i64 0) ∧ wz1.cell? ⟨5, 1, none⟩ = some (.int .i64 20) ∧ wz1.cell? ⟨6, 0, none⟩ = some (.int .i64 1) ∧ wz1.cell? ⟨6, 1, none⟩ = some (.int .i64 30) ∧ Kp w wz1 := ⟨kz1.cell sz0.1, kz1.cell sz0.2.1, kz1.cell sz0.2.2.1, kz1.cell sz0.2.2.2.1, kz1.cell sz0.2.2.2.2.1, kz1.cell sz0.2.2.2.2.2.1, kz1.cell sz0.2.2.2.2.2.2.1, kz1.cell sz0.2.2.2.2.2.2.2.1, kz1.cell sz0.2.2.2.2.2.2.2.2.1, kz1.cell sz0.2.2.2.2.2.2.2.2.2.1, kz1.cell sz0.2.2.2.2.2.2.2.2.2.2.1, kz1.cell sz0.2.2.2.2.2.2.2.2.2.2.2.1, kz1.cell sz0.2.2.2.2.2.2.2.2.2.2.2.2.1, kz1.cell sz0.2.2.2.2.2.2.2.2.2.2.2.2.2.1, kz1.cell sz0.2.2.2.2.2.2.2.2.2.2.2.2.2.2.1, kz1.cell sz0.2.2.2.2.2.2.2.2.2.2.2.2.2.2.2.1, kz1.cell sz0.2.2.2.2.2.2.2.2.2.2.2.2.2.2.2.2.1, sz0.2.2.2.2.2.2.2.2.2.2.2.2.2.2.2.2.2.trans kz1⟩
  clear sz0 kz1
  go_wp2_with fail
  refine (has_any _ _ _ _).mono ?_
  rintro e2 wz2 ⟨rfl, kz2⟩
  have sz2 : wz2.cell? ⟨w.heap.size, 0, none⟩ = some (t) ∧ wz2.cell? ⟨w.heap.size, 1, none⟩ = some (k) ∧ wz2.cell? ⟨w.heap.size, 2, none⟩ = some (.int .i64 a) ∧ wz2.cell? ⟨w.heap.size, 3, none⟩ = some (.int .i64 b) ∧ wz2.cell? ⟨w.heap.size, 4, none⟩ = some (.int .i64 c) ∧ wz2.cell? ⟨w.heap.size, 5, none⟩ = some (.int .i64 d) ∧ wz2.cell? ⟨w.heap.size, 6, none⟩ = some (.int .i64 e) ∧ wz2.cell? ⟨2, 0, none⟩ = some (.int .i64 1) ∧ wz2.cell? ⟨2, 1, none⟩ = some (.int .i64 4) ∧ wz2.cell? ⟨3, 0, none⟩ = some (.int .i64 0) ∧ wz2.cell? ⟨3, 1, none⟩ = some (.int .i64 9) ∧ wz2.cell? ⟨4, 0, none⟩ = some (.int .i64 1) ∧ wz2.cell? ⟨4, 1, none⟩ = some (.int .i64 9) ∧ wz2.cell? ⟨5, 0, none⟩ = some (.int .i64 0) ∧ wz2.cell? ⟨5, 1, none⟩ = some (.int .i64 20) ∧ wz2.cell? ⟨6, 0, none⟩ = some (.int .i64 1) ∧ wz2.cell? ⟨6, 1, none⟩ = some (.int .i64 30) ∧ Kp w wz2 := ⟨kz2.cell sz1.1, kz2.cell sz1.2.1, kz2.cell sz1.2.2.1, kz2.cell sz1.2.2.2.1, kz2.cell sz1.2.2.2.2.1, kz2.cell sz1.2.2.2.2.2.1, kz2.cell sz1.2.2.2.2.2.2.1, kz2.cell sz1.2.2.2.2.2.2.2.1, kz2.cell sz1.2.2.2.2.2.2.2.2.1, kz2.cell sz1.2.2.2.2.2.2.2.2.2.1, kz2.cell sz1.2.2.2.2.2.2.2.2.2.2.1, kz2.cell sz1.2.2.2.2.2.2.2.2.2.2.2.1, kz2.cell sz1.2.2.2.2.2.2.2.2.2.2.2.2.1, kz2.cell sz1.2.2.2.2.2.2.2.2.2.2.2.2.2.1, kz2.cell sz1.2.2.2.2.2.2.2.2.2.2.2.2.2.2.1, kz2.cell sz1.2.2.2.2.2.2.2.2.2.2.2.2.2.2.2.1, kz2.cell sz1.2.2.2.2.2.2.2.2.2.2.2.2.2.2.2.2.1, sz1.2.2.2.2.2.2.2.2.2.2.2.2.2.2.2.2.2.trans kz2⟩
  clear sz1 kz2
  go_wp2_with fail
  go_ret
  exact ⟨rfl, sz2.2.2.2.2.2.2.2.2.2.2.2.2.2.2.2.2.2⟩

set_option maxRecDepth 100000 in
set_option maxHeartbeats 4000000 in
theorem lim_no4 (t k : Value) (a b c d e : Int) (w : World) (hs : Spans w) (h0 : spB 1 4 a = true) (h1 : spB 0 9 b = true) (h2 : spB 1 9 c = true) (h3 : spB 0 20 d = false) :
    Calls Tryz.prog 84 #[rv t k a b c d e] w fun e' w' => e' = .returned (.bool false) ∧ Kp w w' := by
  have s0 : (w.alloc (.cells #[t, k, .int .i64 a, .int .i64 b, .int .i64 c, .int .i64 d, .int .i64 e] 35)).cell? ⟨w.heap.size, 0, none⟩ = some (t) ∧ (w.alloc (.cells #[t, k, .int .i64 a, .int .i64 b, .int .i64 c, .int .i64 d, .int .i64 e] 35)).cell? ⟨w.heap.size, 1, none⟩ = some (k) ∧ (w.alloc (.cells #[t, k, .int .i64 a, .int .i64 b, .int .i64 c, .int .i64 d, .int .i64 e] 35)).cell? ⟨w.heap.size, 2, none⟩ = some (.int .i64 a) ∧ (w.alloc (.cells #[t, k, .int .i64 a, .int .i64 b, .int .i64 c, .int .i64 d, .int .i64 e] 35)).cell? ⟨w.heap.size, 3, none⟩ = some (.int .i64 b) ∧ (w.alloc (.cells #[t, k, .int .i64 a, .int .i64 b, .int .i64 c, .int .i64 d, .int .i64 e] 35)).cell? ⟨w.heap.size, 4, none⟩ = some (.int .i64 c) ∧ (w.alloc (.cells #[t, k, .int .i64 a, .int .i64 b, .int .i64 c, .int .i64 d, .int .i64 e] 35)).cell? ⟨w.heap.size, 5, none⟩ = some (.int .i64 d) ∧ (w.alloc (.cells #[t, k, .int .i64 a, .int .i64 b, .int .i64 c, .int .i64 d, .int .i64 e] 35)).cell? ⟨w.heap.size, 6, none⟩ = some (.int .i64 e) ∧ (w.alloc (.cells #[t, k, .int .i64 a, .int .i64 b, .int .i64 c, .int .i64 d, .int .i64 e] 35)).cell? ⟨2, 0, none⟩ = some (.int .i64 1) ∧ (w.alloc (.cells #[t, k, .int .i64 a, .int .i64 b, .int .i64 c, .int .i64 d, .int .i64 e] 35)).cell? ⟨2, 1, none⟩ = some (.int .i64 4) ∧ (w.alloc (.cells #[t, k, .int .i64 a, .int .i64 b, .int .i64 c, .int .i64 d, .int .i64 e] 35)).cell? ⟨3, 0, none⟩ = some (.int .i64 0) ∧ (w.alloc (.cells #[t, k, .int .i64 a, .int .i64 b, .int .i64 c, .int .i64 d, .int .i64 e] 35)).cell? ⟨3, 1, none⟩ = some (.int .i64 9) ∧ (w.alloc (.cells #[t, k, .int .i64 a, .int .i64 b, .int .i64 c, .int .i64 d, .int .i64 e] 35)).cell? ⟨4, 0, none⟩ = some (.int .i64 1) ∧ (w.alloc (.cells #[t, k, .int .i64 a, .int .i64 b, .int .i64 c, .int .i64 d, .int .i64 e] 35)).cell? ⟨4, 1, none⟩ = some (.int .i64 9) ∧ (w.alloc (.cells #[t, k, .int .i64 a, .int .i64 b, .int .i64 c, .int .i64 d, .int .i64 e] 35)).cell? ⟨5, 0, none⟩ = some (.int .i64 0) ∧ (w.alloc (.cells #[t, k, .int .i64 a, .int .i64 b, .int .i64 c, .int .i64 d, .int .i64 e] 35)).cell? ⟨5, 1, none⟩ = some (.int .i64 20) ∧ (w.alloc (.cells #[t, k, .int .i64 a, .int .i64 b, .int .i64 c, .int .i64 d, .int .i64 e] 35)).cell? ⟨6, 0, none⟩ = some (.int .i64 1) ∧ (w.alloc (.cells #[t, k, .int .i64 a, .int .i64 b, .int .i64 c, .int .i64 d, .int .i64 e] 35)).cell? ⟨6, 1, none⟩ = some (.int .i64 30) ∧ Kp w (w.alloc (.cells #[t, k, .int .i64 a, .int .i64 b, .int .i64 c, .int .i64 d, .int .i64 e] 35)) :=
    ⟨by simp [go_sem], by simp [go_sem], by simp [go_sem], by simp [go_sem], by simp [go_sem], by simp [go_sem], by simp [go_sem], ((Kp.refl w).alloc _).cell hs.stack.1, ((Kp.refl w).alloc _).cell hs.stack.2, ((Kp.refl w).alloc _).cell hs.river.1, ((Kp.refl w).alloc _).cell hs.river.2, ((Kp.refl w).alloc _).cell hs.road.1, ((Kp.refl w).alloc _).cell hs.road.2, ((Kp.refl w).alloc _).cell hs.supply.1, ((Kp.refl w).alloc _).cell hs.supply.2, ((Kp.refl w).alloc _).cell hs.turns.1, ((Kp.refl w).alloc _).cell hs.turns.2, (Kp.refl w).alloc _⟩
  clear hs
  go_enter Tryz.func84, Tryz.ntmps84
  go_wp2_with fail
  generalize w.alloc (.cells #[t, k, .int .i64 a, .int .i64 b, .int .i64 c, .int .i64 d, .int .i64 e] 35) = W0 at *
  refine (has_any _ _ _ _).mono ?_
  rintro e0 wz0 ⟨rfl, kz0⟩
  have sz0 : wz0.cell? ⟨w.heap.size, 0, none⟩ = some (t) ∧ wz0.cell? ⟨w.heap.size, 1, none⟩ = some (k) ∧ wz0.cell? ⟨w.heap.size, 2, none⟩ = some (.int .i64 a) ∧ wz0.cell? ⟨w.heap.size, 3, none⟩ = some (.int .i64 b) ∧ wz0.cell? ⟨w.heap.size, 4, none⟩ = some (.int .i64 c) ∧ wz0.cell? ⟨w.heap.size, 5, none⟩ = some (.int .i64 d) ∧ wz0.cell? ⟨w.heap.size, 6, none⟩ = some (.int .i64 e) ∧ wz0.cell? ⟨2, 0, none⟩ = some (.int .i64 1) ∧ wz0.cell? ⟨2, 1, none⟩ = some (.int .i64 4) ∧ wz0.cell? ⟨3, 0, none⟩ = some (.int .i64 0) ∧ wz0.cell? ⟨3, 1, none⟩ = some (.int .i64 9) ∧ wz0.cell? ⟨4, 0, none⟩ = some (.int .i64 1) ∧ wz0.cell? ⟨4, 1, none⟩ = some (.int .i64 9) ∧ wz0.cell? ⟨5, 0, none⟩ = some (.int .i64 0) ∧ wz0.cell? ⟨5, 1, none⟩ = some (.int .i64 20) ∧ wz0.cell? ⟨6, 0, none⟩ = some (.int .i64 1) ∧ wz0.cell? ⟨6, 1, none⟩ = some (.int .i64 30) ∧ Kp w wz0 := ⟨kz0.cell s0.1, kz0.cell s0.2.1, kz0.cell s0.2.2.1, kz0.cell s0.2.2.2.1, kz0.cell s0.2.2.2.2.1, kz0.cell s0.2.2.2.2.2.1, kz0.cell s0.2.2.2.2.2.2.1, kz0.cell s0.2.2.2.2.2.2.2.1, kz0.cell s0.2.2.2.2.2.2.2.2.1, kz0.cell s0.2.2.2.2.2.2.2.2.2.1, kz0.cell s0.2.2.2.2.2.2.2.2.2.2.1, kz0.cell s0.2.2.2.2.2.2.2.2.2.2.2.1, kz0.cell s0.2.2.2.2.2.2.2.2.2.2.2.2.1, kz0.cell s0.2.2.2.2.2.2.2.2.2.2.2.2.2.1, kz0.cell s0.2.2.2.2.2.2.2.2.2.2.2.2.2.2.1, kz0.cell s0.2.2.2.2.2.2.2.2.2.2.2.2.2.2.2.1, kz0.cell s0.2.2.2.2.2.2.2.2.2.2.2.2.2.2.2.2.1, s0.2.2.2.2.2.2.2.2.2.2.2.2.2.2.2.2.2.trans kz0⟩
  clear s0 kz0
  go_wp2_with fail
  refine (has_any _ _ _ _).mono ?_
  rintro e1 wz1 ⟨rfl, kz1⟩
  have sz1 : wz1.cell? ⟨w.heap.size, 0, none⟩ = some (t) ∧ wz1.cell? ⟨w.heap.size, 1, none⟩ = some (k) ∧ wz1.cell? ⟨w.heap.size, 2, none⟩ = some (.int .i64 a) ∧ wz1.cell? ⟨w.heap.size, 3, none⟩ = some (.int .i64 b) ∧ wz1.cell? ⟨w.heap.size, 4, none⟩ = some (.int .i64 c) ∧ wz1.cell? ⟨w.heap.size, 5, none⟩ = some (.int .i64 d) ∧ wz1.cell? ⟨w.heap.size, 6, none⟩ = some (.int .i64 e) ∧ wz1.cell? ⟨2, 0, none⟩ = some (.int .i64 1) ∧ wz1.cell? ⟨2, 1, none⟩ = some (.int .i64 4) ∧ wz1.cell? ⟨3, 0, none⟩ = some (.int .i64 0) ∧ wz1.cell? ⟨3, 1, none⟩ = some (.int .i64 9) ∧ wz1.cell? ⟨4, 0, none⟩ = some (.int .i64 1) ∧ wz1.cell? ⟨4, 1, none⟩ = some (.int .i64 9) ∧ wz1.cell? ⟨5, 0, none⟩ = some (.int .i64 0) ∧ wz1.cell? ⟨5, 1, none⟩ = some (.int .i64 20) ∧ wz1.cell? ⟨6, 0, none⟩ = some (.int .i64 1) ∧ wz1.cell? ⟨6, 1, none⟩ = some (.int .i64 30) ∧ Kp w wz1 := ⟨kz1.cell sz0.1, kz1.cell sz0.2.1, kz1.cell sz0.2.2.1, kz1.cell sz0.2.2.2.1, kz1.cell sz0.2.2.2.2.1, kz1.cell sz0.2.2.2.2.2.1, kz1.cell sz0.2.2.2.2.2.2.1, kz1.cell sz0.2.2.2.2.2.2.2.1, kz1.cell sz0.2.2.2.2.2.2.2.2.1, kz1.cell sz0.2.2.2.2.2.2.2.2.2.1, kz1.cell sz0.2.2.2.2.2.2.2.2.2.2.1, kz1.cell sz0.2.2.2.2.2.2.2.2.2.2.2.1, kz1.cell sz0.2.2.2.2.2.2.2.2.2.2.2.2.1, kz1.cell sz0.2.2.2.2.2.2.2.2.2.2.2.2.2.1, kz1.cell sz0.2.2.2.2.2.2.2.2.2.2.2.2.2.2.1, kz1.cell sz0.2.2.2.2.2.2.2.2.2.2.2.2.2.2.2.1, kz1.cell sz0.2.2.2.2.2.2.2.2.2.2.2.2.2.2.2.2.1, sz0.2.2.2.2.2.2.2.2.2.2.2.2.2.2.2.2.2.trans kz1⟩
  clear sz0 kz1
  go_wp2_with fail
  refine (has_any _ _ _ _).mono ?_
  rintro e2 wz2 ⟨rfl, kz2⟩
  have sz2 : wz2.cell? ⟨w.heap.size, 0, none⟩ = some (t) ∧ wz2.cell? ⟨w.heap.size, 1, none⟩ = some (k) ∧ wz2.cell? ⟨w.heap.size, 2, none⟩ = some (.int .i64 a) ∧ wz2.cell? ⟨w.heap.size, 3, none⟩ = some (.int .i64 b) ∧ wz2.cell? ⟨w.heap.size, 4, none⟩ = some (.int .i64 c) ∧ wz2.cell? ⟨w.heap.size, 5, none⟩ = some (.int .i64 d) ∧ wz2.cell? ⟨w.heap.size, 6, none⟩ = some (.int .i64 e) ∧ wz2.cell? ⟨2, 0, none⟩ = some (.int .i64 1) ∧ wz2.cell? ⟨2, 1, none⟩ = some (.int .i64 4) ∧ wz2.cell? ⟨3, 0, none⟩ = some (.int .i64 0) ∧ wz2.cell? ⟨3, 1, none⟩ = some (.int .i64 9) ∧ wz2.cell? ⟨4, 0, none⟩ = some (.int .i64 1) ∧ wz2.cell? ⟨4, 1, none⟩ = some (.int .i64 9) ∧ wz2.cell? ⟨5, 0, none⟩ = some (.int .i64 0) ∧ wz2.cell? ⟨5, 1, none⟩ = some (.int .i64 20) ∧ wz2.cell? ⟨6, 0, none⟩ = some (.int .i64 1) ∧ wz2.cell? ⟨6, 1, none⟩ = some (.int .i64 30) ∧ Kp w wz2 := ⟨kz2.cell sz1.1, kz2.cell sz1.2.1, kz2.cell sz1.2.2.1, kz2.cell sz1.2.2.2.1, kz2.cell sz1.2.2.2.2.1, kz2.cell sz1.2.2.2.2.2.1, kz2.cell sz1.2.2.2.2.2.2.1, kz2.cell sz1.2.2.2.2.2.2.2.1, kz2.cell sz1.2.2.2.2.2.2.2.2.1, kz2.cell sz1.2.2.2.2.2.2.2.2.2.1, kz2.cell sz1.2.2.2.2.2.2.2.2.2.2.1, kz2.cell sz1.2.2.2.2.2.2.2.2.2.2.2.1, kz2.cell sz1.2.2.2.2.2.2.2.2.2.2.2.2.1, kz2.cell sz1.2.2.2.2.2.2.2.2.2.2.2.2.2.1, kz2.cell sz1.2.2.2.2.2.2.2.2.2.2.2.2.2.2.1, kz2.cell sz1.2.2.2.2.2.2.2.2.2.2.2.2.2.2.2.1, kz2.cell sz1.2.2.2.2.2.2.2.2.2.2.2.2.2.2.2.2.1, sz1.2.2.2.2.2.2.2.2.2.2.2.2.2.2.2.2.2.trans kz2⟩
  clear sz1 kz2
  go_wp2_with fail
  refine (has_any _ _ _ _).mono ?_
  rintro e3 wz3 ⟨rfl, kz3⟩
  have sz3 : wz3.cell? ⟨w.heap.size, 0, none⟩ = some (t) ∧ wz3.cell? ⟨w.heap.size, 1, none⟩ = some (k) ∧ wz3.cell? ⟨w.heap.size, 2, none⟩ = some (.int .i64 a) ∧ wz3.cell? ⟨w.heap.size, 3, none⟩ = some (.int .i64 b) ∧ wz3.cell? ⟨w.heap.size, 4, none⟩ = some (.int .i64 c) ∧ wz3.cell? ⟨w.heap.size, 5, none⟩ = some (.int .i64 d) ∧ wz3.cell? ⟨w.heap.size, 6, none⟩ = some (.int .i64 e) ∧ wz3.cell? ⟨2, 0, none⟩ = some (.int .i64 1) ∧ wz3.cell? ⟨2, 1, none⟩ = some (.int .i64 4) ∧ wz3.cell? ⟨3, 0, none⟩ = some (.int .i64 0) ∧ wz3.cell? ⟨3, 1, none⟩ = some (.int .i64 9) ∧ wz3.cell? ⟨4, 0, none⟩ = some (.int .i64 1) ∧ wz3.cell? ⟨4, 1, none⟩ = some (.int .i64 9) ∧ wz3.cell? ⟨5, 0, none⟩ = some (.int .i64 0) ∧ wz3.cell? ⟨5, 1, none⟩ = some (.int .i64 20) ∧ wz3.cell? ⟨6, 0, none⟩ = some (.int .i64 1) ∧ wz3.cell? ⟨6, 1, none⟩ = some (.int .i64 30) ∧ Kp w wz3 := ⟨kz3.cell sz2.1, kz3.cell sz2.2.1, kz3.cell sz2.2.2.1, kz3.cell sz2.2.2.2.1, kz3.cell sz2.2.2.2.2.1, kz3.cell sz2.2.2.2.2.2.1, kz3.cell sz2.2.2.2.2.2.2.1, kz3.cell sz2.2.2.2.2.2.2.2.1, kz3.cell sz2.2.2.2.2.2.2.2.2.1, kz3.cell sz2.2.2.2.2.2.2.2.2.2.1, kz3.cell sz2.2.2.2.2.2.2.2.2.2.2.1, kz3.cell sz2.2.2.2.2.2.2.2.2.2.2.2.1, kz3.cell sz2.2.2.2.2.2.2.2.2.2.2.2.2.1, kz3.cell sz2.2.2.2.2.2.2.2.2.2.2.2.2.2.1, kz3.cell sz2.2.2.2.2.2.2.2.2.2.2.2.2.2.2.1, kz3.cell sz2.2.2.2.2.2.2.2.2.2.2.2.2.2.2.2.1, kz3.cell sz2.2.2.2.2.2.2.2.2.2.2.2.2.2.2.2.2.1, sz2.2.2.2.2.2.2.2.2.2.2.2.2.2.2.2.2.2.trans kz3⟩
  clear sz2 kz3
  go_wp2_with fail
  go_ret
  exact ⟨rfl, sz3.2.2.2.2.2.2.2.2.2.2.2.2.2.2.2.2.2⟩

set_option maxRecDepth 100000 in
set_option maxHeartbeats 4000000 in
theorem lim_yes (t k : Value) (a b c d e : Int) (w : World) (hs : Spans w) (h0 : spB 1 4 a = true) (h1 : spB 0 9 b = true) (h2 : spB 1 9 c = true) (h3 : spB 0 20 d = true) :
    Calls Tryz.prog 84 #[rv t k a b c d e] w fun e' w' => e' = .returned (.bool (spB 1 30 e)) ∧ Kp w w' := by
  have s0 : (w.alloc (.cells #[t, k, .int .i64 a, .int .i64 b, .int .i64 c, .int .i64 d, .int .i64 e] 35)).cell? ⟨w.heap.size, 0, none⟩ = some (t) ∧ (w.alloc (.cells #[t, k, .int .i64 a, .int .i64 b, .int .i64 c, .int .i64 d, .int .i64 e] 35)).cell? ⟨w.heap.size, 1, none⟩ = some (k) ∧ (w.alloc (.cells #[t, k, .int .i64 a, .int .i64 b, .int .i64 c, .int .i64 d, .int .i64 e] 35)).cell? ⟨w.heap.size, 2, none⟩ = some (.int .i64 a) ∧ (w.alloc (.cells #[t, k, .int .i64 a, .int .i64 b, .int .i64 c, .int .i64 d, .int .i64 e] 35)).cell? ⟨w.heap.size, 3, none⟩ = some (.int .i64 b) ∧ (w.alloc (.cells #[t, k, .int .i64 a, .int .i64 b, .int .i64 c, .int .i64 d, .int .i64 e] 35)).cell? ⟨w.heap.size, 4, none⟩ = some (.int .i64 c) ∧ (w.alloc (.cells #[t, k, .int .i64 a, .int .i64 b, .int .i64 c, .int .i64 d, .int .i64 e] 35)).cell? ⟨w.heap.size, 5, none⟩ = some (.int .i64 d) ∧ (w.alloc (.cells #[t, k, .int .i64 a, .int .i64 b, .int .i64 c, .int .i64 d, .int .i64 e] 35)).cell? ⟨w.heap.size, 6, none⟩ = some (.int .i64 e) ∧ (w.alloc (.cells #[t, k, .int .i64 a, .int .i64 b, .int .i64 c, .int .i64 d, .int .i64 e] 35)).cell? ⟨2, 0, none⟩ = some (.int .i64 1) ∧ (w.alloc (.cells #[t, k, .int .i64 a, .int .i64 b, .int .i64 c, .int .i64 d, .int .i64 e] 35)).cell? ⟨2, 1, none⟩ = some (.int .i64 4) ∧ (w.alloc (.cells #[t, k, .int .i64 a, .int .i64 b, .int .i64 c, .int .i64 d, .int .i64 e] 35)).cell? ⟨3, 0, none⟩ = some (.int .i64 0) ∧ (w.alloc (.cells #[t, k, .int .i64 a, .int .i64 b, .int .i64 c, .int .i64 d, .int .i64 e] 35)).cell? ⟨3, 1, none⟩ = some (.int .i64 9) ∧ (w.alloc (.cells #[t, k, .int .i64 a, .int .i64 b, .int .i64 c, .int .i64 d, .int .i64 e] 35)).cell? ⟨4, 0, none⟩ = some (.int .i64 1) ∧ (w.alloc (.cells #[t, k, .int .i64 a, .int .i64 b, .int .i64 c, .int .i64 d, .int .i64 e] 35)).cell? ⟨4, 1, none⟩ = some (.int .i64 9) ∧ (w.alloc (.cells #[t, k, .int .i64 a, .int .i64 b, .int .i64 c, .int .i64 d, .int .i64 e] 35)).cell? ⟨5, 0, none⟩ = some (.int .i64 0) ∧ (w.alloc (.cells #[t, k, .int .i64 a, .int .i64 b, .int .i64 c, .int .i64 d, .int .i64 e] 35)).cell? ⟨5, 1, none⟩ = some (.int .i64 20) ∧ (w.alloc (.cells #[t, k, .int .i64 a, .int .i64 b, .int .i64 c, .int .i64 d, .int .i64 e] 35)).cell? ⟨6, 0, none⟩ = some (.int .i64 1) ∧ (w.alloc (.cells #[t, k, .int .i64 a, .int .i64 b, .int .i64 c, .int .i64 d, .int .i64 e] 35)).cell? ⟨6, 1, none⟩ = some (.int .i64 30) ∧ Kp w (w.alloc (.cells #[t, k, .int .i64 a, .int .i64 b, .int .i64 c, .int .i64 d, .int .i64 e] 35)) :=
    ⟨by simp [go_sem], by simp [go_sem], by simp [go_sem], by simp [go_sem], by simp [go_sem], by simp [go_sem], by simp [go_sem], ((Kp.refl w).alloc _).cell hs.stack.1, ((Kp.refl w).alloc _).cell hs.stack.2, ((Kp.refl w).alloc _).cell hs.river.1, ((Kp.refl w).alloc _).cell hs.river.2, ((Kp.refl w).alloc _).cell hs.road.1, ((Kp.refl w).alloc _).cell hs.road.2, ((Kp.refl w).alloc _).cell hs.supply.1, ((Kp.refl w).alloc _).cell hs.supply.2, ((Kp.refl w).alloc _).cell hs.turns.1, ((Kp.refl w).alloc _).cell hs.turns.2, (Kp.refl w).alloc _⟩
  clear hs
  go_enter Tryz.func84, Tryz.ntmps84
  go_wp2_with fail
  generalize w.alloc (.cells #[t, k, .int .i64 a, .int .i64 b, .int .i64 c, .int .i64 d, .int .i64 e] 35) = W0 at *
  refine (has_any _ _ _ _).mono ?_
  rintro e0 wz0 ⟨rfl, kz0⟩
  have sz0 : wz0.cell? ⟨w.heap.size, 0, none⟩ = some (t) ∧ wz0.cell? ⟨w.heap.size, 1, none⟩ = some (k) ∧ wz0.cell? ⟨w.heap.size, 2, none⟩ = some (.int .i64 a) ∧ wz0.cell? ⟨w.heap.size, 3, none⟩ = some (.int .i64 b) ∧ wz0.cell? ⟨w.heap.size, 4, none⟩ = some (.int .i64 c) ∧ wz0.cell? ⟨w.heap.size, 5, none⟩ = some (.int .i64 d) ∧ wz0.cell? ⟨w.heap.size, 6, none⟩ = some (.int .i64 e) ∧ wz0.cell? ⟨2, 0, none⟩ = some (.int .i64 1) ∧ wz0.cell? ⟨2, 1, none⟩ = some (.int .i64 4) ∧ wz0.cell? ⟨3, 0, none⟩ = some (.int .i64 0) ∧ wz0.cell? ⟨3, 1, none⟩ = some (.int .i64 9) ∧ wz0.cell? ⟨4, 0, none⟩ = some (.int .i64 1) ∧ wz0.cell? ⟨4, 1, none⟩ = some (.int .i64 9) ∧ wz0.cell? ⟨5, 0, none⟩ = some (.int .i64 0) ∧ wz0.cell? ⟨5, 1, none⟩ = some (.int .i64 20) ∧ wz0.cell? ⟨6, 0, none⟩ = some (.int .i64 1) ∧ wz0.cell? ⟨6, 1, none⟩ = some (.int .i64 30) ∧ Kp w wz0 := ⟨kz0.cell s0.1, kz0.cell s0.2.1, kz0.cell s0.2.2.1, kz0.cell s0.2.2.2.1, kz0.cell s0.2.2.2.2.1, kz0.cell s0.2.2.2.2.2.1, kz0.cell s0.2.2.2.2.2.2.1, kz0.cell s0.2.2.2.2.2.2.2.1, kz0.cell s0.2.2.2.2.2.2.2.2.1, kz0.cell s0.2.2.2.2.2.2.2.2.2.1, kz0.cell s0.2.2.2.2.2.2.2.2.2.2.1, kz0.cell s0.2.2.2.2.2.2.2.2.2.2.2.1, kz0.cell s0.2.2.2.2.2.2.2.2.2.2.2.2.1, kz0.cell s0.2.2.2.2.2.2.2.2.2.2.2.2.2.1, kz0.cell s0.2.2.2.2.2.2.2.2.2.2.2.2.2.2.1, kz0.cell s0.2.2.2.2.2.2.2.2.2.2.2.2.2.2.2.1, kz0.cell s0.2.2.2.2.2.2.2.2.2.2.2.2.2.2.2.2.1, s0.2.2.2.2.2.2.2.2.2.2.2.2.2.2.2.2.2.trans kz0⟩
  clear s0 kz0
  go_wp2_with fail
  refine (has_any _ _ _ _).mono ?_
  rintro e1 wz1 ⟨rfl, kz1⟩
  have sz1 : wz1.cell? ⟨w.heap.size, 0, none⟩ = some (t) ∧ wz1.cell? ⟨w.heap.size, 1, none⟩ = some (k) ∧ wz1.cell? ⟨w.heap.size, 2, none⟩ = some (.int .i64 a) ∧ wz1.cell? ⟨w.heap.size, 3, none⟩ = some (.int .i64 b) ∧ wz1.cell? ⟨w.heap.size, 4, none⟩ = some (.int .i64 c) ∧ wz1.cell? ⟨w.heap.size, 5, none⟩ = some (.int .i64 d) ∧ wz1.cell? ⟨w.heap.size, 6, none⟩ = some (.int .i64 e) ∧ wz1.cell? ⟨2, 0, none⟩ = some (.int .i64 1) ∧ wz1.cell? ⟨2, 1, none⟩ = some (.int .i64 4) ∧ wz1.cell? ⟨3, 0, none⟩ = some (.int .i64 0) ∧ wz1.cell? ⟨3, 1, none⟩ = some (.int .i64 9) ∧ wz1.cell? ⟨4, 0, none⟩ = some (.int .i64 1) ∧ wz1.cell? ⟨4, 1, none⟩ = some (.int .i64 9) ∧ wz1.cell? ⟨5, 0, none⟩ = some (.int .i64 0) ∧ wz1.cell? ⟨5, 1, none⟩ = some (.int .i64 20) ∧ wz1.cell? ⟨6, 0, none⟩ = some (.int .i64 1) ∧ wz1.cell? ⟨6, 1, none⟩ = some (.int .i64 30) ∧ Kp w wz1 := ⟨kz1.cell sz0.1, kz1.cell sz0.2.1, kz1.cell sz0.2.2.1, kz1.cell sz0.2.2.2.1, kz1.cell sz0.2.2.2.2.1, kz1.cell sz0.2.2.2.2.2.1, kz1.cell sz0.2.2.2.2.2.2.1, kz1.cell sz0.2.2.2.2.2.2.2.1, kz1.cell sz0.2.2.2.2.2.2.2.2.1, kz1.cell sz0.2.2.2.2.2.2.2.2.2.1, kz1.cell sz0.2.2.2.2.2.2.2.2.2.2.1, kz1.cell sz0.2.2.2.2.2.2.2.2.2.2.2.1, kz1.cell sz0.2.2.2.2.2.2.2.2.2.2.2.2.1, kz1.cell sz0.2.2.2.2.2.2.2.2.2.2.2.2.2.1, kz1.cell sz0.2.2.2.2.2.2.2.2.2.2.2.2.2.2.1, kz1.cell sz0.2.2.2.2.2.2.2.2.2.2.2.2.2.2.2.1, kz1.cell sz0.2.2.2.2.2.2.2.2.2.2.2.2.2.2.2.2.1, sz0.2.2.2.2.2.2.2.2.2.2.2.2.2.2.2.2.2.trans kz1⟩
  clear sz0 kz1
  go_wp2_with fail
  refine (has_any _ _ _ _).mono ?_
  rintro e2 wz2 ⟨rfl, kz2⟩
  have sz2 : wz2.cell? ⟨w.heap.size, 0, none⟩ = some (t) ∧ wz2.cell? ⟨w.heap.size, 1, none⟩ = some (k) ∧ wz2.cell? ⟨w.heap.size, 2, none⟩ = some (.int .i64 a) ∧ wz2.cell? ⟨w.heap.size, 3, none⟩ = some (.int .i64 b) ∧ wz2.cell? ⟨w.heap.size, 4, none⟩ = some (.int .i64 c) ∧ wz2.cell? ⟨w.heap.size, 5, none⟩ = some (.int .i64 d) ∧ wz2.cell? ⟨w.heap.size, 6, none⟩ = some (.int .i64 e) ∧ wz2.cell? ⟨2, 0, none⟩ = some (.int .i64 1) ∧ wz2.cell? ⟨2, 1, none⟩ = some (.int .i64 4) ∧ wz2.cell? ⟨3, 0, none⟩ = some (.int .i64 0) ∧ wz2.cell? ⟨3, 1, none⟩ = some (.int .i64 9) ∧ wz2.cell? ⟨4, 0, none⟩ = some (.int .i64 1) ∧ wz2.cell? ⟨4, 1, none⟩ = some (.int .i64 9) ∧ wz2.cell? ⟨5, 0, none⟩ = some (.int .i64 0) ∧ wz2.cell? ⟨5, 1, none⟩ = some (.int .i64 20) ∧ wz2.cell? ⟨6, 0, none⟩ = some (.int .i64 1) ∧ wz2.cell? ⟨6, 1, none⟩ = some (.int .i64 30) ∧ Kp w wz2 := ⟨kz2.cell sz1.1, kz2.cell sz1.2.1, kz2.cell sz1.2.2.1, kz2.cell sz1.2.2.2.1, kz2.cell sz1.2.2.2.2.1, kz2.cell sz1.2.2.2.2.2.1, kz2.cell sz1.2.2.2.2.2.2.1, kz2.cell sz1.2.2.2.2.2.2.2.1, kz2.cell sz1.2.2.2.2.2.2.2.2.1, kz2.cell sz1.2.2.2.2.2.2.2.2.2.1, kz2.cell sz1.2.2.2.2.2.2.2.2.2.2.1, kz2.cell sz1.2.2.2.2.2.2.2.2.2.2.2.1, kz2.cell sz1.2.2.2.2.2.2.2.2.2.2.2.2.1, kz2.cell sz1.2.2.2.2.2.2.2.2.2.2.2.2.2.1, kz2.cell sz1.2.2.2.2.2.2.2.2.2.2.2.2.2.2.1, kz2.cell sz1.2.2.2.2.2.2.2.2.2.2.2.2.2.2.2.1, kz2.cell sz1.2.2.2.2.2.2.2.2.2.2.2.2.2.2.2.2.1, sz1.2.2.2.2.2.2.2.2.2.2.2.2.2.2.2.2.2.trans kz2⟩
  clear sz1 kz2
  go_wp2_with fail
  refine (has_any _ _ _ _).mono ?_
  rintro e3 wz3 ⟨rfl, kz3⟩
  have sz3 : wz3.cell? ⟨w.heap.size, 0, none⟩ = some (t) ∧ wz3.cell? ⟨w.heap.size, 1, none⟩ = some (k) ∧ wz3.cell? ⟨w.heap.size, 2, none⟩ = some (.int .i64 a) ∧ wz3.cell? ⟨w.heap.size, 3, none⟩ = some (.int .i64 b) ∧ wz3.cell? ⟨w.heap.size, 4, none⟩ = some (.int .i64 c) ∧ wz3.cell? ⟨w.heap.size, 5, none⟩ = some (.int .i64 d) ∧ wz3.cell? ⟨w.heap.size, 6, none⟩ = some (.int .i64 e) ∧ wz3.cell? ⟨2, 0, none⟩ = some (.int .i64 1) ∧ wz3.cell? ⟨2, 1, none⟩ = some (.int .i64 4) ∧ wz3.cell? ⟨3, 0, none⟩ = some (.int .i64 0) ∧ wz3.cell? ⟨3, 1, none⟩ = some (.int .i64 9) ∧ wz3.cell? ⟨4, 0, none⟩ = some (.int .i64 1) ∧ wz3.cell? ⟨4, 1, none⟩ = some (.int .i64 9) ∧ wz3.cell? ⟨5, 0, none⟩ = some (.int .i64 0) ∧ wz3.cell? ⟨5, 1, none⟩ = some (.int .i64 20) ∧ wz3.cell? ⟨6, 0, none⟩ = some (.int .i64 1) ∧ wz3.cell? ⟨6, 1, none⟩ = some (.int .i64 30) ∧ Kp w wz3 := ⟨kz3.cell sz2.1, kz3.cell sz2.2.1, kz3.cell sz2.2.2.1, kz3.cell sz2.2.2.2.1, kz3.cell sz2.2.2.2.2.1, kz3.cell sz2.2.2.2.2.2.1, kz3.cell sz2.2.2.2.2.2.2.1, kz3.cell sz2.2.2.2.2.2.2.2.1, kz3.cell sz2.2.2.2.2.2.2.2.2.1, kz3.cell sz2.2.2.2.2.2.2.2.2.2.1, kz3.cell sz2.2.2.2.2.2.2.2.2.2.2.1, kz3.cell sz2.2.2.2.2.2.2.2.2.2.2.2.1, kz3.cell sz2.2.2.2.2.2.2.2.2.2.2.2.2.1, kz3.cell sz2.2.2.2.2.2.2.2.2.2.2.2.2.2.1, kz3.cell sz2.2.2.2.2.2.2.2.2.2.2.2.2.2.2.1, kz3.cell sz2.2.2.2.2.2.2.2.2.2.2.2.2.2.2.2.1, kz3.cell sz2.2.2.2.2.2.2.2.2.2.2.2.2.2.2.2.2.1, sz2.2.2.2.2.2.2.2.2.2.2.2.2.2.2.2.2.2.trans kz3⟩
  clear sz2 kz3
  go_wp2_with fail
  refine (has_any _ _ _ _).mono ?_
  rintro e4 wz4 ⟨rfl, kz4⟩
  have sz4 : wz4.cell? ⟨w.heap.size, 0, none⟩ = some (t) ∧ wz4.cell? ⟨w.heap.size, 1, none⟩ = some (k) ∧ wz4.cell? ⟨w.heap.size, 2, none⟩ = some (.int .i64 a) ∧ wz4.cell? ⟨w.heap.size, 3, none⟩ = some (.int .i64 b) ∧ wz4.cell? ⟨w.heap.size, 4, none⟩ = some (.int .i64 c) ∧ wz4.cell? ⟨w.heap.size, 5, none⟩ = some (.int .i64 d) ∧ wz4.cell? ⟨w.heap.size, 6, none⟩ = some (.int .i64 e) ∧ wz4.cell? ⟨2, 0, none⟩ = some (.int .i64 1) ∧ wz4.cell? ⟨2, 1, none⟩ = some (.int .i64 4) ∧ wz4.cell? ⟨3, 0, none⟩ = some (.int .i64 0) ∧ wz4.cell? ⟨3, 1, none⟩ = some (.int .i64 9) ∧ wz4.cell? ⟨4, 0, none⟩ = some (.int .i64 1) ∧ wz4.cell? ⟨4, 1, none⟩ = some (.int .i64 9) ∧ wz4.cell? ⟨5, 0, none⟩ = some (.int .i64 0) ∧ wz4.cell? ⟨5, 1, none⟩ = some (.int .i64 20) ∧ wz4.cell? ⟨6, 0, none⟩ = some (.int .i64 1) ∧ wz4.cell? ⟨6, 1, none⟩ = some (.int .i64 30) ∧ Kp w wz4 := ⟨kz4.cell sz3.1, kz4.cell sz3.2.1, kz4.cell sz3.2.2.1, kz4.cell sz3.2.2.2.1, kz4.cell sz3.2.2.2.2.1, kz4.cell sz3.2.2.2.2.2.1, kz4.cell sz3.2.2.2.2.2.2.1, kz4.cell sz3.2.2.2.2.2.2.2.1, kz4.cell sz3.2.2.2.2.2.2.2.2.1, kz4.cell sz3.2.2.2.2.2.2.2.2.2.1, kz4.cell sz3.2.2.2.2.2.2.2.2.2.2.1, kz4.cell sz3.2.2.2.2.2.2.2.2.2.2.2.1, kz4.cell sz3.2.2.2.2.2.2.2.2.2.2.2.2.1, kz4.cell sz3.2.2.2.2.2.2.2.2.2.2.2.2.2.1, kz4.cell sz3.2.2.2.2.2.2.2.2.2.2.2.2.2.2.1, kz4.cell sz3.2.2.2.2.2.2.2.2.2.2.2.2.2.2.2.1, kz4.cell sz3.2.2.2.2.2.2.2.2.2.2.2.2.2.2.2.2.1, sz3.2.2.2.2.2.2.2.2.2.2.2.2.2.2.2.2.2.trans kz4⟩
  clear sz3 kz4
  go_wp2_with fail
  go_ret
  exact ⟨rfl, sz4.2.2.2.2.2.2.2.2.2.2.2.2.2.2.2.2.2⟩

abbrev kv (n : ByteArray) (a b c : Int) (z : Bool) (v : Int) : Value := .agg #[.string n, .int .i64 a, .int .i64 b, .int .i64 c, .bool z, .int .i64 v]

set_option maxRecDepth 100000 in
set_option maxHeartbeats 4000000 in
theorem kn_no1 (n : ByteArray) (a b c : Int) (z : Bool) (v : Int) (w : World) (hs : Spans w) (h0 : spB 1 9 a = false) :
    Calls Tryz.prog 86 #[kv n a b c z v] w fun e' w' => e' = .returned (.bool false) ∧ Kp w w' := by
  have s0 : (w.alloc (.cells #[.string n, .int .i64 a, .int .i64 b, .int .i64 c, .bool z, .int .i64 v] 76)).cell? ⟨w.heap.size, 0, none⟩ = some (.string n) ∧ (w.alloc (.cells #[.string n, .int .i64 a, .int .i64 b, .int .i64 c, .bool z, .int .i64 v] 76)).cell? ⟨w.heap.size, 1, none⟩ = some (.int .i64 a) ∧ (w.alloc (.cells #[.string n, .int .i64 a, .int .i64 b, .int .i64 c, .bool z, .int .i64 v] 76)).cell? ⟨w.heap.size, 2, none⟩ = some (.int .i64 b) ∧ (w.alloc (.cells #[.string n, .int .i64 a, .int .i64 b, .int .i64 c, .bool z, .int .i64 v] 76)).cell? ⟨w.heap.size, 3, none⟩ = some (.int .i64 c) ∧ (w.alloc (.cells #[.string n, .int .i64 a, .int .i64 b, .int .i64 c, .bool z, .int .i64 v] 76)).cell? ⟨w.heap.size, 4, none⟩ = some (.bool z) ∧ (w.alloc (.cells #[.string n, .int .i64 a, .int .i64 b, .int .i64 c, .bool z, .int .i64 v] 76)).cell? ⟨w.heap.size, 5, none⟩ = some (.int .i64 v) ∧ (w.alloc (.cells #[.string n, .int .i64 a, .int .i64 b, .int .i64 c, .bool z, .int .i64 v] 76)).cell? ⟨10, 0, none⟩ = some (.int .i64 1) ∧ (w.alloc (.cells #[.string n, .int .i64 a, .int .i64 b, .int .i64 c, .bool z, .int .i64 v] 76)).cell? ⟨10, 1, none⟩ = some (.int .i64 9) ∧ (w.alloc (.cells #[.string n, .int .i64 a, .int .i64 b, .int .i64 c, .bool z, .int .i64 v] 76)).cell? ⟨11, 0, none⟩ = some (.int .i64 0) ∧ (w.alloc (.cells #[.string n, .int .i64 a, .int .i64 b, .int .i64 c, .bool z, .int .i64 v] 76)).cell? ⟨11, 1, none⟩ = some (.int .i64 9) ∧ (w.alloc (.cells #[.string n, .int .i64 a, .int .i64 b, .int .i64 c, .bool z, .int .i64 v] 76)).cell? ⟨12, 0, none⟩ = some (.int .i64 1) ∧ (w.alloc (.cells #[.string n, .int .i64 a, .int .i64 b, .int .i64 c, .bool z, .int .i64 v] 76)).cell? ⟨12, 1, none⟩ = some (.int .i64 4) ∧ (w.alloc (.cells #[.string n, .int .i64 a, .int .i64 b, .int .i64 c, .bool z, .int .i64 v] 76)).cell? ⟨13, 0, none⟩ = some (.int .i64 0) ∧ (w.alloc (.cells #[.string n, .int .i64 a, .int .i64 b, .int .i64 c, .bool z, .int .i64 v] 76)).cell? ⟨13, 1, none⟩ = some (.int .i64 4) ∧ Kp w (w.alloc (.cells #[.string n, .int .i64 a, .int .i64 b, .int .i64 c, .bool z, .int .i64 v] 76)) :=
    ⟨by simp [go_sem], by simp [go_sem], by simp [go_sem], by simp [go_sem], by simp [go_sem], by simp [go_sem], ((Kp.refl w).alloc _).cell hs.strength.1, ((Kp.refl w).alloc _).cell hs.strength.2, ((Kp.refl w).alloc _).cell hs.moves.1, ((Kp.refl w).alloc _).cell hs.moves.2, ((Kp.refl w).alloc _).cell hs.steps.1, ((Kp.refl w).alloc _).cell hs.steps.2, ((Kp.refl w).alloc _).cell hs.view.1, ((Kp.refl w).alloc _).cell hs.view.2, (Kp.refl w).alloc _⟩
  clear hs
  go_enter Tryz.func86, Tryz.ntmps86
  go_wp2_with fail
  generalize w.alloc (.cells #[.string n, .int .i64 a, .int .i64 b, .int .i64 c, .bool z, .int .i64 v] 76) = W0 at *
  refine (has_any _ _ _ _).mono ?_
  rintro e0 wz0 ⟨rfl, kz0⟩
  have sz0 : wz0.cell? ⟨w.heap.size, 0, none⟩ = some (.string n) ∧ wz0.cell? ⟨w.heap.size, 1, none⟩ = some (.int .i64 a) ∧ wz0.cell? ⟨w.heap.size, 2, none⟩ = some (.int .i64 b) ∧ wz0.cell? ⟨w.heap.size, 3, none⟩ = some (.int .i64 c) ∧ wz0.cell? ⟨w.heap.size, 4, none⟩ = some (.bool z) ∧ wz0.cell? ⟨w.heap.size, 5, none⟩ = some (.int .i64 v) ∧ wz0.cell? ⟨10, 0, none⟩ = some (.int .i64 1) ∧ wz0.cell? ⟨10, 1, none⟩ = some (.int .i64 9) ∧ wz0.cell? ⟨11, 0, none⟩ = some (.int .i64 0) ∧ wz0.cell? ⟨11, 1, none⟩ = some (.int .i64 9) ∧ wz0.cell? ⟨12, 0, none⟩ = some (.int .i64 1) ∧ wz0.cell? ⟨12, 1, none⟩ = some (.int .i64 4) ∧ wz0.cell? ⟨13, 0, none⟩ = some (.int .i64 0) ∧ wz0.cell? ⟨13, 1, none⟩ = some (.int .i64 4) ∧ Kp w wz0 := ⟨kz0.cell s0.1, kz0.cell s0.2.1, kz0.cell s0.2.2.1, kz0.cell s0.2.2.2.1, kz0.cell s0.2.2.2.2.1, kz0.cell s0.2.2.2.2.2.1, kz0.cell s0.2.2.2.2.2.2.1, kz0.cell s0.2.2.2.2.2.2.2.1, kz0.cell s0.2.2.2.2.2.2.2.2.1, kz0.cell s0.2.2.2.2.2.2.2.2.2.1, kz0.cell s0.2.2.2.2.2.2.2.2.2.2.1, kz0.cell s0.2.2.2.2.2.2.2.2.2.2.2.1, kz0.cell s0.2.2.2.2.2.2.2.2.2.2.2.2.1, kz0.cell s0.2.2.2.2.2.2.2.2.2.2.2.2.2.1, s0.2.2.2.2.2.2.2.2.2.2.2.2.2.2.trans kz0⟩
  clear s0 kz0
  go_wp2_with fail
  go_ret
  exact ⟨rfl, sz0.2.2.2.2.2.2.2.2.2.2.2.2.2.2⟩

set_option maxRecDepth 100000 in
set_option maxHeartbeats 4000000 in
theorem kn_no2 (n : ByteArray) (a b c : Int) (z : Bool) (v : Int) (w : World) (hs : Spans w) (h0 : spB 1 9 a = true) (h1 : spB 0 9 b = false) :
    Calls Tryz.prog 86 #[kv n a b c z v] w fun e' w' => e' = .returned (.bool false) ∧ Kp w w' := by
  have s0 : (w.alloc (.cells #[.string n, .int .i64 a, .int .i64 b, .int .i64 c, .bool z, .int .i64 v] 76)).cell? ⟨w.heap.size, 0, none⟩ = some (.string n) ∧ (w.alloc (.cells #[.string n, .int .i64 a, .int .i64 b, .int .i64 c, .bool z, .int .i64 v] 76)).cell? ⟨w.heap.size, 1, none⟩ = some (.int .i64 a) ∧ (w.alloc (.cells #[.string n, .int .i64 a, .int .i64 b, .int .i64 c, .bool z, .int .i64 v] 76)).cell? ⟨w.heap.size, 2, none⟩ = some (.int .i64 b) ∧ (w.alloc (.cells #[.string n, .int .i64 a, .int .i64 b, .int .i64 c, .bool z, .int .i64 v] 76)).cell? ⟨w.heap.size, 3, none⟩ = some (.int .i64 c) ∧ (w.alloc (.cells #[.string n, .int .i64 a, .int .i64 b, .int .i64 c, .bool z, .int .i64 v] 76)).cell? ⟨w.heap.size, 4, none⟩ = some (.bool z) ∧ (w.alloc (.cells #[.string n, .int .i64 a, .int .i64 b, .int .i64 c, .bool z, .int .i64 v] 76)).cell? ⟨w.heap.size, 5, none⟩ = some (.int .i64 v) ∧ (w.alloc (.cells #[.string n, .int .i64 a, .int .i64 b, .int .i64 c, .bool z, .int .i64 v] 76)).cell? ⟨10, 0, none⟩ = some (.int .i64 1) ∧ (w.alloc (.cells #[.string n, .int .i64 a, .int .i64 b, .int .i64 c, .bool z, .int .i64 v] 76)).cell? ⟨10, 1, none⟩ = some (.int .i64 9) ∧ (w.alloc (.cells #[.string n, .int .i64 a, .int .i64 b, .int .i64 c, .bool z, .int .i64 v] 76)).cell? ⟨11, 0, none⟩ = some (.int .i64 0) ∧ (w.alloc (.cells #[.string n, .int .i64 a, .int .i64 b, .int .i64 c, .bool z, .int .i64 v] 76)).cell? ⟨11, 1, none⟩ = some (.int .i64 9) ∧ (w.alloc (.cells #[.string n, .int .i64 a, .int .i64 b, .int .i64 c, .bool z, .int .i64 v] 76)).cell? ⟨12, 0, none⟩ = some (.int .i64 1) ∧ (w.alloc (.cells #[.string n, .int .i64 a, .int .i64 b, .int .i64 c, .bool z, .int .i64 v] 76)).cell? ⟨12, 1, none⟩ = some (.int .i64 4) ∧ (w.alloc (.cells #[.string n, .int .i64 a, .int .i64 b, .int .i64 c, .bool z, .int .i64 v] 76)).cell? ⟨13, 0, none⟩ = some (.int .i64 0) ∧ (w.alloc (.cells #[.string n, .int .i64 a, .int .i64 b, .int .i64 c, .bool z, .int .i64 v] 76)).cell? ⟨13, 1, none⟩ = some (.int .i64 4) ∧ Kp w (w.alloc (.cells #[.string n, .int .i64 a, .int .i64 b, .int .i64 c, .bool z, .int .i64 v] 76)) :=
    ⟨by simp [go_sem], by simp [go_sem], by simp [go_sem], by simp [go_sem], by simp [go_sem], by simp [go_sem], ((Kp.refl w).alloc _).cell hs.strength.1, ((Kp.refl w).alloc _).cell hs.strength.2, ((Kp.refl w).alloc _).cell hs.moves.1, ((Kp.refl w).alloc _).cell hs.moves.2, ((Kp.refl w).alloc _).cell hs.steps.1, ((Kp.refl w).alloc _).cell hs.steps.2, ((Kp.refl w).alloc _).cell hs.view.1, ((Kp.refl w).alloc _).cell hs.view.2, (Kp.refl w).alloc _⟩
  clear hs
  go_enter Tryz.func86, Tryz.ntmps86
  go_wp2_with fail
  generalize w.alloc (.cells #[.string n, .int .i64 a, .int .i64 b, .int .i64 c, .bool z, .int .i64 v] 76) = W0 at *
  refine (has_any _ _ _ _).mono ?_
  rintro e0 wz0 ⟨rfl, kz0⟩
  have sz0 : wz0.cell? ⟨w.heap.size, 0, none⟩ = some (.string n) ∧ wz0.cell? ⟨w.heap.size, 1, none⟩ = some (.int .i64 a) ∧ wz0.cell? ⟨w.heap.size, 2, none⟩ = some (.int .i64 b) ∧ wz0.cell? ⟨w.heap.size, 3, none⟩ = some (.int .i64 c) ∧ wz0.cell? ⟨w.heap.size, 4, none⟩ = some (.bool z) ∧ wz0.cell? ⟨w.heap.size, 5, none⟩ = some (.int .i64 v) ∧ wz0.cell? ⟨10, 0, none⟩ = some (.int .i64 1) ∧ wz0.cell? ⟨10, 1, none⟩ = some (.int .i64 9) ∧ wz0.cell? ⟨11, 0, none⟩ = some (.int .i64 0) ∧ wz0.cell? ⟨11, 1, none⟩ = some (.int .i64 9) ∧ wz0.cell? ⟨12, 0, none⟩ = some (.int .i64 1) ∧ wz0.cell? ⟨12, 1, none⟩ = some (.int .i64 4) ∧ wz0.cell? ⟨13, 0, none⟩ = some (.int .i64 0) ∧ wz0.cell? ⟨13, 1, none⟩ = some (.int .i64 4) ∧ Kp w wz0 := ⟨kz0.cell s0.1, kz0.cell s0.2.1, kz0.cell s0.2.2.1, kz0.cell s0.2.2.2.1, kz0.cell s0.2.2.2.2.1, kz0.cell s0.2.2.2.2.2.1, kz0.cell s0.2.2.2.2.2.2.1, kz0.cell s0.2.2.2.2.2.2.2.1, kz0.cell s0.2.2.2.2.2.2.2.2.1, kz0.cell s0.2.2.2.2.2.2.2.2.2.1, kz0.cell s0.2.2.2.2.2.2.2.2.2.2.1, kz0.cell s0.2.2.2.2.2.2.2.2.2.2.2.1, kz0.cell s0.2.2.2.2.2.2.2.2.2.2.2.2.1, kz0.cell s0.2.2.2.2.2.2.2.2.2.2.2.2.2.1, s0.2.2.2.2.2.2.2.2.2.2.2.2.2.2.trans kz0⟩
  clear s0 kz0
  go_wp2_with fail
  refine (has_any _ _ _ _).mono ?_
  rintro e1 wz1 ⟨rfl, kz1⟩
  have sz1 : wz1.cell? ⟨w.heap.size, 0, none⟩ = some (.string n) ∧ wz1.cell? ⟨w.heap.size, 1, none⟩ = some (.int .i64 a) ∧ wz1.cell? ⟨w.heap.size, 2, none⟩ = some (.int .i64 b) ∧ wz1.cell? ⟨w.heap.size, 3, none⟩ = some (.int .i64 c) ∧ wz1.cell? ⟨w.heap.size, 4, none⟩ = some (.bool z) ∧ wz1.cell? ⟨w.heap.size, 5, none⟩ = some (.int .i64 v) ∧ wz1.cell? ⟨10, 0, none⟩ = some (.int .i64 1) ∧ wz1.cell? ⟨10, 1, none⟩ = some (.int .i64 9) ∧ wz1.cell? ⟨11, 0, none⟩ = some (.int .i64 0) ∧ wz1.cell? ⟨11, 1, none⟩ = some (.int .i64 9) ∧ wz1.cell? ⟨12, 0, none⟩ = some (.int .i64 1) ∧ wz1.cell? ⟨12, 1, none⟩ = some (.int .i64 4) ∧ wz1.cell? ⟨13, 0, none⟩ = some (.int .i64 0) ∧ wz1.cell? ⟨13, 1, none⟩ = some (.int .i64 4) ∧ Kp w wz1 := ⟨kz1.cell sz0.1, kz1.cell sz0.2.1, kz1.cell sz0.2.2.1, kz1.cell sz0.2.2.2.1, kz1.cell sz0.2.2.2.2.1, kz1.cell sz0.2.2.2.2.2.1, kz1.cell sz0.2.2.2.2.2.2.1, kz1.cell sz0.2.2.2.2.2.2.2.1, kz1.cell sz0.2.2.2.2.2.2.2.2.1, kz1.cell sz0.2.2.2.2.2.2.2.2.2.1, kz1.cell sz0.2.2.2.2.2.2.2.2.2.2.1, kz1.cell sz0.2.2.2.2.2.2.2.2.2.2.2.1, kz1.cell sz0.2.2.2.2.2.2.2.2.2.2.2.2.1, kz1.cell sz0.2.2.2.2.2.2.2.2.2.2.2.2.2.1, sz0.2.2.2.2.2.2.2.2.2.2.2.2.2.2.trans kz1⟩
  clear sz0 kz1
  go_wp2_with fail
  go_ret
  exact ⟨rfl, sz1.2.2.2.2.2.2.2.2.2.2.2.2.2.2⟩

set_option maxRecDepth 100000 in
set_option maxHeartbeats 4000000 in
theorem kn_no3 (n : ByteArray) (a b c : Int) (z : Bool) (v : Int) (w : World) (hs : Spans w) (h0 : spB 1 9 a = true) (h1 : spB 0 9 b = true) (h2 : spB 1 4 c = false) :
    Calls Tryz.prog 86 #[kv n a b c z v] w fun e' w' => e' = .returned (.bool false) ∧ Kp w w' := by
  have s0 : (w.alloc (.cells #[.string n, .int .i64 a, .int .i64 b, .int .i64 c, .bool z, .int .i64 v] 76)).cell? ⟨w.heap.size, 0, none⟩ = some (.string n) ∧ (w.alloc (.cells #[.string n, .int .i64 a, .int .i64 b, .int .i64 c, .bool z, .int .i64 v] 76)).cell? ⟨w.heap.size, 1, none⟩ = some (.int .i64 a) ∧ (w.alloc (.cells #[.string n, .int .i64 a, .int .i64 b, .int .i64 c, .bool z, .int .i64 v] 76)).cell? ⟨w.heap.size, 2, none⟩ = some (.int .i64 b) ∧ (w.alloc (.cells #[.string n, .int .i64 a, .int .i64 b, .int .i64 c, .bool z, .int .i64 v] 76)).cell? ⟨w.heap.size, 3, none⟩ = some (.int .i64 c) ∧ (w.alloc (.cells #[.string n, .int .i64 a, .int .i64 b, .int .i64 c, .bool z, .int .i64 v] 76)).cell? ⟨w.heap.size, 4, none⟩ = some (.bool z) ∧ (w.alloc (.cells #[.string n, .int .i64 a, .int .i64 b, .int .i64 c, .bool z, .int .i64 v] 76)).cell? ⟨w.heap.size, 5, none⟩ = some (.int .i64 v) ∧ (w.alloc (.cells #[.string n, .int .i64 a, .int .i64 b, .int .i64 c, .bool z, .int .i64 v] 76)).cell? ⟨10, 0, none⟩ = some (.int .i64 1) ∧ (w.alloc (.cells #[.string n, .int .i64 a, .int .i64 b, .int .i64 c, .bool z, .int .i64 v] 76)).cell? ⟨10, 1, none⟩ = some (.int .i64 9) ∧ (w.alloc (.cells #[.string n, .int .i64 a, .int .i64 b, .int .i64 c, .bool z, .int .i64 v] 76)).cell? ⟨11, 0, none⟩ = some (.int .i64 0) ∧ (w.alloc (.cells #[.string n, .int .i64 a, .int .i64 b, .int .i64 c, .bool z, .int .i64 v] 76)).cell? ⟨11, 1, none⟩ = some (.int .i64 9) ∧ (w.alloc (.cells #[.string n, .int .i64 a, .int .i64 b, .int .i64 c, .bool z, .int .i64 v] 76)).cell? ⟨12, 0, none⟩ = some (.int .i64 1) ∧ (w.alloc (.cells #[.string n, .int .i64 a, .int .i64 b, .int .i64 c, .bool z, .int .i64 v] 76)).cell? ⟨12, 1, none⟩ = some (.int .i64 4) ∧ (w.alloc (.cells #[.string n, .int .i64 a, .int .i64 b, .int .i64 c, .bool z, .int .i64 v] 76)).cell? ⟨13, 0, none⟩ = some (.int .i64 0) ∧ (w.alloc (.cells #[.string n, .int .i64 a, .int .i64 b, .int .i64 c, .bool z, .int .i64 v] 76)).cell? ⟨13, 1, none⟩ = some (.int .i64 4) ∧ Kp w (w.alloc (.cells #[.string n, .int .i64 a, .int .i64 b, .int .i64 c, .bool z, .int .i64 v] 76)) :=
    ⟨by simp [go_sem], by simp [go_sem], by simp [go_sem], by simp [go_sem], by simp [go_sem], by simp [go_sem], ((Kp.refl w).alloc _).cell hs.strength.1, ((Kp.refl w).alloc _).cell hs.strength.2, ((Kp.refl w).alloc _).cell hs.moves.1, ((Kp.refl w).alloc _).cell hs.moves.2, ((Kp.refl w).alloc _).cell hs.steps.1, ((Kp.refl w).alloc _).cell hs.steps.2, ((Kp.refl w).alloc _).cell hs.view.1, ((Kp.refl w).alloc _).cell hs.view.2, (Kp.refl w).alloc _⟩
  clear hs
  go_enter Tryz.func86, Tryz.ntmps86
  go_wp2_with fail
  generalize w.alloc (.cells #[.string n, .int .i64 a, .int .i64 b, .int .i64 c, .bool z, .int .i64 v] 76) = W0 at *
  refine (has_any _ _ _ _).mono ?_
  rintro e0 wz0 ⟨rfl, kz0⟩
  have sz0 : wz0.cell? ⟨w.heap.size, 0, none⟩ = some (.string n) ∧ wz0.cell? ⟨w.heap.size, 1, none⟩ = some (.int .i64 a) ∧ wz0.cell? ⟨w.heap.size, 2, none⟩ = some (.int .i64 b) ∧ wz0.cell? ⟨w.heap.size, 3, none⟩ = some (.int .i64 c) ∧ wz0.cell? ⟨w.heap.size, 4, none⟩ = some (.bool z) ∧ wz0.cell? ⟨w.heap.size, 5, none⟩ = some (.int .i64 v) ∧ wz0.cell? ⟨10, 0, none⟩ = some (.int .i64 1) ∧ wz0.cell? ⟨10, 1, none⟩ = some (.int .i64 9) ∧ wz0.cell? ⟨11, 0, none⟩ = some (.int .i64 0) ∧ wz0.cell? ⟨11, 1, none⟩ = some (.int .i64 9) ∧ wz0.cell? ⟨12, 0, none⟩ = some (.int .i64 1) ∧ wz0.cell? ⟨12, 1, none⟩ = some (.int .i64 4) ∧ wz0.cell? ⟨13, 0, none⟩ = some (.int .i64 0) ∧ wz0.cell? ⟨13, 1, none⟩ = some (.int .i64 4) ∧ Kp w wz0 := ⟨kz0.cell s0.1, kz0.cell s0.2.1, kz0.cell s0.2.2.1, kz0.cell s0.2.2.2.1, kz0.cell s0.2.2.2.2.1, kz0.cell s0.2.2.2.2.2.1, kz0.cell s0.2.2.2.2.2.2.1, kz0.cell s0.2.2.2.2.2.2.2.1, kz0.cell s0.2.2.2.2.2.2.2.2.1, kz0.cell s0.2.2.2.2.2.2.2.2.2.1, kz0.cell s0.2.2.2.2.2.2.2.2.2.2.1, kz0.cell s0.2.2.2.2.2.2.2.2.2.2.2.1, kz0.cell s0.2.2.2.2.2.2.2.2.2.2.2.2.1, kz0.cell s0.2.2.2.2.2.2.2.2.2.2.2.2.2.1, s0.2.2.2.2.2.2.2.2.2.2.2.2.2.2.trans kz0⟩
  clear s0 kz0
  go_wp2_with fail
  refine (has_any _ _ _ _).mono ?_
  rintro e1 wz1 ⟨rfl, kz1⟩
  have sz1 : wz1.cell? ⟨w.heap.size, 0, none⟩ = some (.string n) ∧ wz1.cell? ⟨w.heap.size, 1, none⟩ = some (.int .i64 a) ∧ wz1.cell? ⟨w.heap.size, 2, none⟩ = some (.int .i64 b) ∧ wz1.cell? ⟨w.heap.size, 3, none⟩ = some (.int .i64 c) ∧ wz1.cell? ⟨w.heap.size, 4, none⟩ = some (.bool z) ∧ wz1.cell? ⟨w.heap.size, 5, none⟩ = some (.int .i64 v) ∧ wz1.cell? ⟨10, 0, none⟩ = some (.int .i64 1) ∧ wz1.cell? ⟨10, 1, none⟩ = some (.int .i64 9) ∧ wz1.cell? ⟨11, 0, none⟩ = some (.int .i64 0) ∧ wz1.cell? ⟨11, 1, none⟩ = some (.int .i64 9) ∧ wz1.cell? ⟨12, 0, none⟩ = some (.int .i64 1) ∧ wz1.cell? ⟨12, 1, none⟩ = some (.int .i64 4) ∧ wz1.cell? ⟨13, 0, none⟩ = some (.int .i64 0) ∧ wz1.cell? ⟨13, 1, none⟩ = some (.int .i64 4) ∧ Kp w wz1 := ⟨kz1.cell sz0.1, kz1.cell sz0.2.1, kz1.cell sz0.2.2.1, kz1.cell sz0.2.2.2.1, kz1.cell sz0.2.2.2.2.1, kz1.cell sz0.2.2.2.2.2.1, kz1.cell sz0.2.2.2.2.2.2.1, kz1.cell sz0.2.2.2.2.2.2.2.1, kz1.cell sz0.2.2.2.2.2.2.2.2.1, kz1.cell sz0.2.2.2.2.2.2.2.2.2.1, kz1.cell sz0.2.2.2.2.2.2.2.2.2.2.1, kz1.cell sz0.2.2.2.2.2.2.2.2.2.2.2.1, kz1.cell sz0.2.2.2.2.2.2.2.2.2.2.2.2.1, kz1.cell sz0.2.2.2.2.2.2.2.2.2.2.2.2.2.1, sz0.2.2.2.2.2.2.2.2.2.2.2.2.2.2.trans kz1⟩
  clear sz0 kz1
  go_wp2_with fail
  refine (has_any _ _ _ _).mono ?_
  rintro e2 wz2 ⟨rfl, kz2⟩
  have sz2 : wz2.cell? ⟨w.heap.size, 0, none⟩ = some (.string n) ∧ wz2.cell? ⟨w.heap.size, 1, none⟩ = some (.int .i64 a) ∧ wz2.cell? ⟨w.heap.size, 2, none⟩ = some (.int .i64 b) ∧ wz2.cell? ⟨w.heap.size, 3, none⟩ = some (.int .i64 c) ∧ wz2.cell? ⟨w.heap.size, 4, none⟩ = some (.bool z) ∧ wz2.cell? ⟨w.heap.size, 5, none⟩ = some (.int .i64 v) ∧ wz2.cell? ⟨10, 0, none⟩ = some (.int .i64 1) ∧ wz2.cell? ⟨10, 1, none⟩ = some (.int .i64 9) ∧ wz2.cell? ⟨11, 0, none⟩ = some (.int .i64 0) ∧ wz2.cell? ⟨11, 1, none⟩ = some (.int .i64 9) ∧ wz2.cell? ⟨12, 0, none⟩ = some (.int .i64 1) ∧ wz2.cell? ⟨12, 1, none⟩ = some (.int .i64 4) ∧ wz2.cell? ⟨13, 0, none⟩ = some (.int .i64 0) ∧ wz2.cell? ⟨13, 1, none⟩ = some (.int .i64 4) ∧ Kp w wz2 := ⟨kz2.cell sz1.1, kz2.cell sz1.2.1, kz2.cell sz1.2.2.1, kz2.cell sz1.2.2.2.1, kz2.cell sz1.2.2.2.2.1, kz2.cell sz1.2.2.2.2.2.1, kz2.cell sz1.2.2.2.2.2.2.1, kz2.cell sz1.2.2.2.2.2.2.2.1, kz2.cell sz1.2.2.2.2.2.2.2.2.1, kz2.cell sz1.2.2.2.2.2.2.2.2.2.1, kz2.cell sz1.2.2.2.2.2.2.2.2.2.2.1, kz2.cell sz1.2.2.2.2.2.2.2.2.2.2.2.1, kz2.cell sz1.2.2.2.2.2.2.2.2.2.2.2.2.1, kz2.cell sz1.2.2.2.2.2.2.2.2.2.2.2.2.2.1, sz1.2.2.2.2.2.2.2.2.2.2.2.2.2.2.trans kz2⟩
  clear sz1 kz2
  go_wp2_with fail
  go_ret
  exact ⟨rfl, sz2.2.2.2.2.2.2.2.2.2.2.2.2.2.2⟩

set_option maxRecDepth 100000 in
set_option maxHeartbeats 4000000 in
theorem kn_yes (n : ByteArray) (a b c : Int) (z : Bool) (v : Int) (w : World) (hs : Spans w) (h0 : spB 1 9 a = true) (h1 : spB 0 9 b = true) (h2 : spB 1 4 c = true) :
    Calls Tryz.prog 86 #[kv n a b c z v] w fun e' w' => e' = .returned (.bool (spB 0 4 v)) ∧ Kp w w' := by
  have s0 : (w.alloc (.cells #[.string n, .int .i64 a, .int .i64 b, .int .i64 c, .bool z, .int .i64 v] 76)).cell? ⟨w.heap.size, 0, none⟩ = some (.string n) ∧ (w.alloc (.cells #[.string n, .int .i64 a, .int .i64 b, .int .i64 c, .bool z, .int .i64 v] 76)).cell? ⟨w.heap.size, 1, none⟩ = some (.int .i64 a) ∧ (w.alloc (.cells #[.string n, .int .i64 a, .int .i64 b, .int .i64 c, .bool z, .int .i64 v] 76)).cell? ⟨w.heap.size, 2, none⟩ = some (.int .i64 b) ∧ (w.alloc (.cells #[.string n, .int .i64 a, .int .i64 b, .int .i64 c, .bool z, .int .i64 v] 76)).cell? ⟨w.heap.size, 3, none⟩ = some (.int .i64 c) ∧ (w.alloc (.cells #[.string n, .int .i64 a, .int .i64 b, .int .i64 c, .bool z, .int .i64 v] 76)).cell? ⟨w.heap.size, 4, none⟩ = some (.bool z) ∧ (w.alloc (.cells #[.string n, .int .i64 a, .int .i64 b, .int .i64 c, .bool z, .int .i64 v] 76)).cell? ⟨w.heap.size, 5, none⟩ = some (.int .i64 v) ∧ (w.alloc (.cells #[.string n, .int .i64 a, .int .i64 b, .int .i64 c, .bool z, .int .i64 v] 76)).cell? ⟨10, 0, none⟩ = some (.int .i64 1) ∧ (w.alloc (.cells #[.string n, .int .i64 a, .int .i64 b, .int .i64 c, .bool z, .int .i64 v] 76)).cell? ⟨10, 1, none⟩ = some (.int .i64 9) ∧ (w.alloc (.cells #[.string n, .int .i64 a, .int .i64 b, .int .i64 c, .bool z, .int .i64 v] 76)).cell? ⟨11, 0, none⟩ = some (.int .i64 0) ∧ (w.alloc (.cells #[.string n, .int .i64 a, .int .i64 b, .int .i64 c, .bool z, .int .i64 v] 76)).cell? ⟨11, 1, none⟩ = some (.int .i64 9) ∧ (w.alloc (.cells #[.string n, .int .i64 a, .int .i64 b, .int .i64 c, .bool z, .int .i64 v] 76)).cell? ⟨12, 0, none⟩ = some (.int .i64 1) ∧ (w.alloc (.cells #[.string n, .int .i64 a, .int .i64 b, .int .i64 c, .bool z, .int .i64 v] 76)).cell? ⟨12, 1, none⟩ = some (.int .i64 4) ∧ (w.alloc (.cells #[.string n, .int .i64 a, .int .i64 b, .int .i64 c, .bool z, .int .i64 v] 76)).cell? ⟨13, 0, none⟩ = some (.int .i64 0) ∧ (w.alloc (.cells #[.string n, .int .i64 a, .int .i64 b, .int .i64 c, .bool z, .int .i64 v] 76)).cell? ⟨13, 1, none⟩ = some (.int .i64 4) ∧ Kp w (w.alloc (.cells #[.string n, .int .i64 a, .int .i64 b, .int .i64 c, .bool z, .int .i64 v] 76)) :=
    ⟨by simp [go_sem], by simp [go_sem], by simp [go_sem], by simp [go_sem], by simp [go_sem], by simp [go_sem], ((Kp.refl w).alloc _).cell hs.strength.1, ((Kp.refl w).alloc _).cell hs.strength.2, ((Kp.refl w).alloc _).cell hs.moves.1, ((Kp.refl w).alloc _).cell hs.moves.2, ((Kp.refl w).alloc _).cell hs.steps.1, ((Kp.refl w).alloc _).cell hs.steps.2, ((Kp.refl w).alloc _).cell hs.view.1, ((Kp.refl w).alloc _).cell hs.view.2, (Kp.refl w).alloc _⟩
  clear hs
  go_enter Tryz.func86, Tryz.ntmps86
  go_wp2_with fail
  generalize w.alloc (.cells #[.string n, .int .i64 a, .int .i64 b, .int .i64 c, .bool z, .int .i64 v] 76) = W0 at *
  refine (has_any _ _ _ _).mono ?_
  rintro e0 wz0 ⟨rfl, kz0⟩
  have sz0 : wz0.cell? ⟨w.heap.size, 0, none⟩ = some (.string n) ∧ wz0.cell? ⟨w.heap.size, 1, none⟩ = some (.int .i64 a) ∧ wz0.cell? ⟨w.heap.size, 2, none⟩ = some (.int .i64 b) ∧ wz0.cell? ⟨w.heap.size, 3, none⟩ = some (.int .i64 c) ∧ wz0.cell? ⟨w.heap.size, 4, none⟩ = some (.bool z) ∧ wz0.cell? ⟨w.heap.size, 5, none⟩ = some (.int .i64 v) ∧ wz0.cell? ⟨10, 0, none⟩ = some (.int .i64 1) ∧ wz0.cell? ⟨10, 1, none⟩ = some (.int .i64 9) ∧ wz0.cell? ⟨11, 0, none⟩ = some (.int .i64 0) ∧ wz0.cell? ⟨11, 1, none⟩ = some (.int .i64 9) ∧ wz0.cell? ⟨12, 0, none⟩ = some (.int .i64 1) ∧ wz0.cell? ⟨12, 1, none⟩ = some (.int .i64 4) ∧ wz0.cell? ⟨13, 0, none⟩ = some (.int .i64 0) ∧ wz0.cell? ⟨13, 1, none⟩ = some (.int .i64 4) ∧ Kp w wz0 := ⟨kz0.cell s0.1, kz0.cell s0.2.1, kz0.cell s0.2.2.1, kz0.cell s0.2.2.2.1, kz0.cell s0.2.2.2.2.1, kz0.cell s0.2.2.2.2.2.1, kz0.cell s0.2.2.2.2.2.2.1, kz0.cell s0.2.2.2.2.2.2.2.1, kz0.cell s0.2.2.2.2.2.2.2.2.1, kz0.cell s0.2.2.2.2.2.2.2.2.2.1, kz0.cell s0.2.2.2.2.2.2.2.2.2.2.1, kz0.cell s0.2.2.2.2.2.2.2.2.2.2.2.1, kz0.cell s0.2.2.2.2.2.2.2.2.2.2.2.2.1, kz0.cell s0.2.2.2.2.2.2.2.2.2.2.2.2.2.1, s0.2.2.2.2.2.2.2.2.2.2.2.2.2.2.trans kz0⟩
  clear s0 kz0
  go_wp2_with fail
  refine (has_any _ _ _ _).mono ?_
  rintro e1 wz1 ⟨rfl, kz1⟩
  have sz1 : wz1.cell? ⟨w.heap.size, 0, none⟩ = some (.string n) ∧ wz1.cell? ⟨w.heap.size, 1, none⟩ = some (.int .i64 a) ∧ wz1.cell? ⟨w.heap.size, 2, none⟩ = some (.int .i64 b) ∧ wz1.cell? ⟨w.heap.size, 3, none⟩ = some (.int .i64 c) ∧ wz1.cell? ⟨w.heap.size, 4, none⟩ = some (.bool z) ∧ wz1.cell? ⟨w.heap.size, 5, none⟩ = some (.int .i64 v) ∧ wz1.cell? ⟨10, 0, none⟩ = some (.int .i64 1) ∧ wz1.cell? ⟨10, 1, none⟩ = some (.int .i64 9) ∧ wz1.cell? ⟨11, 0, none⟩ = some (.int .i64 0) ∧ wz1.cell? ⟨11, 1, none⟩ = some (.int .i64 9) ∧ wz1.cell? ⟨12, 0, none⟩ = some (.int .i64 1) ∧ wz1.cell? ⟨12, 1, none⟩ = some (.int .i64 4) ∧ wz1.cell? ⟨13, 0, none⟩ = some (.int .i64 0) ∧ wz1.cell? ⟨13, 1, none⟩ = some (.int .i64 4) ∧ Kp w wz1 := ⟨kz1.cell sz0.1, kz1.cell sz0.2.1, kz1.cell sz0.2.2.1, kz1.cell sz0.2.2.2.1, kz1.cell sz0.2.2.2.2.1, kz1.cell sz0.2.2.2.2.2.1, kz1.cell sz0.2.2.2.2.2.2.1, kz1.cell sz0.2.2.2.2.2.2.2.1, kz1.cell sz0.2.2.2.2.2.2.2.2.1, kz1.cell sz0.2.2.2.2.2.2.2.2.2.1, kz1.cell sz0.2.2.2.2.2.2.2.2.2.2.1, kz1.cell sz0.2.2.2.2.2.2.2.2.2.2.2.1, kz1.cell sz0.2.2.2.2.2.2.2.2.2.2.2.2.1, kz1.cell sz0.2.2.2.2.2.2.2.2.2.2.2.2.2.1, sz0.2.2.2.2.2.2.2.2.2.2.2.2.2.2.trans kz1⟩
  clear sz0 kz1
  go_wp2_with fail
  refine (has_any _ _ _ _).mono ?_
  rintro e2 wz2 ⟨rfl, kz2⟩
  have sz2 : wz2.cell? ⟨w.heap.size, 0, none⟩ = some (.string n) ∧ wz2.cell? ⟨w.heap.size, 1, none⟩ = some (.int .i64 a) ∧ wz2.cell? ⟨w.heap.size, 2, none⟩ = some (.int .i64 b) ∧ wz2.cell? ⟨w.heap.size, 3, none⟩ = some (.int .i64 c) ∧ wz2.cell? ⟨w.heap.size, 4, none⟩ = some (.bool z) ∧ wz2.cell? ⟨w.heap.size, 5, none⟩ = some (.int .i64 v) ∧ wz2.cell? ⟨10, 0, none⟩ = some (.int .i64 1) ∧ wz2.cell? ⟨10, 1, none⟩ = some (.int .i64 9) ∧ wz2.cell? ⟨11, 0, none⟩ = some (.int .i64 0) ∧ wz2.cell? ⟨11, 1, none⟩ = some (.int .i64 9) ∧ wz2.cell? ⟨12, 0, none⟩ = some (.int .i64 1) ∧ wz2.cell? ⟨12, 1, none⟩ = some (.int .i64 4) ∧ wz2.cell? ⟨13, 0, none⟩ = some (.int .i64 0) ∧ wz2.cell? ⟨13, 1, none⟩ = some (.int .i64 4) ∧ Kp w wz2 := ⟨kz2.cell sz1.1, kz2.cell sz1.2.1, kz2.cell sz1.2.2.1, kz2.cell sz1.2.2.2.1, kz2.cell sz1.2.2.2.2.1, kz2.cell sz1.2.2.2.2.2.1, kz2.cell sz1.2.2.2.2.2.2.1, kz2.cell sz1.2.2.2.2.2.2.2.1, kz2.cell sz1.2.2.2.2.2.2.2.2.1, kz2.cell sz1.2.2.2.2.2.2.2.2.2.1, kz2.cell sz1.2.2.2.2.2.2.2.2.2.2.1, kz2.cell sz1.2.2.2.2.2.2.2.2.2.2.2.1, kz2.cell sz1.2.2.2.2.2.2.2.2.2.2.2.2.1, kz2.cell sz1.2.2.2.2.2.2.2.2.2.2.2.2.2.1, sz1.2.2.2.2.2.2.2.2.2.2.2.2.2.2.trans kz2⟩
  clear sz1 kz2
  go_wp2_with fail
  refine (has_any _ _ _ _).mono ?_
  rintro e3 wz3 ⟨rfl, kz3⟩
  have sz3 : wz3.cell? ⟨w.heap.size, 0, none⟩ = some (.string n) ∧ wz3.cell? ⟨w.heap.size, 1, none⟩ = some (.int .i64 a) ∧ wz3.cell? ⟨w.heap.size, 2, none⟩ = some (.int .i64 b) ∧ wz3.cell? ⟨w.heap.size, 3, none⟩ = some (.int .i64 c) ∧ wz3.cell? ⟨w.heap.size, 4, none⟩ = some (.bool z) ∧ wz3.cell? ⟨w.heap.size, 5, none⟩ = some (.int .i64 v) ∧ wz3.cell? ⟨10, 0, none⟩ = some (.int .i64 1) ∧ wz3.cell? ⟨10, 1, none⟩ = some (.int .i64 9) ∧ wz3.cell? ⟨11, 0, none⟩ = some (.int .i64 0) ∧ wz3.cell? ⟨11, 1, none⟩ = some (.int .i64 9) ∧ wz3.cell? ⟨12, 0, none⟩ = some (.int .i64 1) ∧ wz3.cell? ⟨12, 1, none⟩ = some (.int .i64 4) ∧ wz3.cell? ⟨13, 0, none⟩ = some (.int .i64 0) ∧ wz3.cell? ⟨13, 1, none⟩ = some (.int .i64 4) ∧ Kp w wz3 := ⟨kz3.cell sz2.1, kz3.cell sz2.2.1, kz3.cell sz2.2.2.1, kz3.cell sz2.2.2.2.1, kz3.cell sz2.2.2.2.2.1, kz3.cell sz2.2.2.2.2.2.1, kz3.cell sz2.2.2.2.2.2.2.1, kz3.cell sz2.2.2.2.2.2.2.2.1, kz3.cell sz2.2.2.2.2.2.2.2.2.1, kz3.cell sz2.2.2.2.2.2.2.2.2.2.1, kz3.cell sz2.2.2.2.2.2.2.2.2.2.2.1, kz3.cell sz2.2.2.2.2.2.2.2.2.2.2.2.1, kz3.cell sz2.2.2.2.2.2.2.2.2.2.2.2.2.1, kz3.cell sz2.2.2.2.2.2.2.2.2.2.2.2.2.2.1, sz2.2.2.2.2.2.2.2.2.2.2.2.2.2.2.trans kz3⟩
  clear sz2 kz3
  go_wp2_with fail
  go_ret
  exact ⟨rfl, sz3.2.2.2.2.2.2.2.2.2.2.2.2.2.2⟩

theorem hasLimits_any (t k : Value) (a b c d e : Int) (w : World) (hs : Spans w) :
    Calls Tryz.prog 84 #[rv t k a b c d e] w fun e' w' => e' = .returned (.bool (limB a b c d e)) ∧ Kp w w' := by
  unfold limB
  cases h0 : spB 1 4 a
  · exact lim_no1 t k a b c d e w hs h0
  · cases h1 : spB 0 9 b
    · exact lim_no2 t k a b c d e w hs h0 h1
    · cases h2 : spB 1 9 c
      · exact lim_no3 t k a b c d e w hs h0 h1 h2
      · cases h3 : spB 0 20 d
        · exact lim_no4 t k a b c d e w hs h0 h1 h2 h3
        · exact lim_yes t k a b c d e w hs h0 h1 h2 h3
theorem kNumbers_any (n : ByteArray) (a b c : Int) (z : Bool) (v : Int) (w : World) (hs : Spans w) :
    Calls Tryz.prog 86 #[kv n a b c z v] w fun e' w' => e' = .returned (.bool (numK ⟨n, a, b, c, z, v⟩)) ∧ Kp w w' := by
  unfold numK
  simp only
  cases h0 : spB 1 9 a
  · exact kn_no1 n a b c z v w hs h0
  · cases h1 : spB 0 9 b
    · exact kn_no2 n a b c z v w hs h0 h1
    · cases h2 : spB 1 4 c
      · exact kn_no3 n a b c z v w hs h0 h1 h2
      · exact kn_yes n a b c z v w hs h0 h1 h2

end Go.Proofs.YtmolpkjdjkhnpaaGreatDoor

/-
  Slices of terrains and of kinds as lists; the program's lists of their names. Nothing that was there is changed.
-/
namespace Go.Proofs.YtmolpkjdjkhnpaaGreatDoor
open Go.RowKit

/-- The cells of a terrain, whose costs read as a list. -/
def TerAt (w : World) (g o : Nat) (x : Ter) : Prop :=
  ∃ A c, (w.cell? ⟨g, o, none⟩ = some (.string x.name) ∧ w.cell? ⟨g, o + 1, none⟩ = some (.slice A x.cost.length c) ∧ w.cell? ⟨g, o + 2, none⟩ = some (.int .i64 x.shift) ∧ w.cell? ⟨g, o + 3, none⟩ = some (.int .i64 x.height) ∧ w.cell? ⟨g, o + 4, none⟩ = some (.bool x.blocks)) ∧ RdI w (.slice A x.cost.length c) x.cost
theorem TerAt.keep {w w' : World} {g o : Nat} {x : Ter} (h : TerAt w g o x) (k : Kp w w') : TerAt w' g o x := by
  obtain ⟨A, c, h, hr⟩ := h
  exact ⟨A, c, ⟨k.cell h.1, k.cell h.2.1, k.cell h.2.2.1, k.cell h.2.2.2.1, k.cell h.2.2.2.2⟩, hr.keep k⟩
def KndAt (w : World) (g o : Nat) (x : Knd) : Prop :=
  w.cell? ⟨g, o, none⟩ = some (.string x.name) ∧ w.cell? ⟨g, o + 1, none⟩ = some (.int .i64 x.str) ∧ w.cell? ⟨g, o + 2, none⟩ = some (.int .i64 x.mov) ∧ w.cell? ⟨g, o + 3, none⟩ = some (.int .i64 x.stp) ∧ w.cell? ⟨g, o + 4, none⟩ = some (.bool x.zone) ∧ w.cell? ⟨g, o + 5, none⟩ = some (.int .i64 x.view)
theorem KndAt.keep {w w' : World} {g o : Nat} {x : Knd} (h : KndAt w g o x) (k : Kp w w') : KndAt w' g o x :=
  ⟨k.cell h.1, k.cell h.2.1, k.cell h.2.2.1, k.cell h.2.2.2.1, k.cell h.2.2.2.2.1, k.cell h.2.2.2.2.2⟩
/-- The slice with this address, length and room reads as the list l of terrains. -/
def RdT (w : World) (A : Option Addr) (n : Nat) (l : List Ter) : Prop :=
  l.length = n ∧ (0 < n → ∃ g off, A = some ⟨g, off, none⟩ ∧ ∀ i x, l[i]? = some x → TerAt w g (off + i * 5) x)
theorem RdT.keep {w w' : World} {A : Option Addr} {n : Nat} {l : List Ter} (h : RdT w A n l) (k : Kp w w') : RdT w' A n l := ⟨h.1, fun h0 => by
  obtain ⟨g, off, e, hc⟩ := h.2 h0
  exact ⟨g, off, e, fun i x hx => (hc i x hx).keep k⟩⟩
def RdK (w : World) (A : Option Addr) (n : Nat) (l : List Knd) : Prop :=
  l.length = n ∧ (0 < n → ∃ g off, A = some ⟨g, off, none⟩ ∧ ∀ i x, l[i]? = some x → KndAt w g (off + i * 6) x)
theorem RdK.keep {w w' : World} {A : Option Addr} {n : Nat} {l : List Knd} (h : RdK w A n l) (k : Kp w w') : RdK w' A n l := ⟨h.1, fun h0 => by
  obtain ⟨g, off, e, hc⟩ := h.2 h0
  exact ⟨g, off, e, fun i x hx => (hc i x hx).keep k⟩⟩

def OwnS (w : World) (base : Nat) (v : Value) (l : List ByteArray) : Prop := w.ownsRow base 9 1 v l.length (l.map fun x => .string x)
theorem OwnS.nil (w : World) (base : Nat) : OwnS w base (.slice none 0 0) [] := World.ownsRow_nil w base _ 1
theorem OwnS.keep {w w' : World} {base : Nat} {v : Value} {l : List ByteArray} (h : OwnS w base v l) (hk : Kp w w') : OwnS w' base v l := ownsRow_keep h hk
theorem OwnS.snoc {w : World} {base : Nat} {v : Value} {l : List ByteArray} {x : ByteArray} (h : w.ownsRow base 9 1 v (l.length + 1) (l.map (fun x => .string x) ++ [.string x])) : OwnS w base v (l ++ [x]) := by
  unfold OwnS
  rw [List.map_append, List.length_append]
  exact h
/-- A new list of strings. -/
def NamesPost (n : Nat) (l : List ByteArray) (w : World) (e : Ending) (w' : World) : Prop :=
  ∃ A c, e = .returned (.slice A n c) ∧ RdS w' (.slice A n c) l ∧ n ≤ c ∧ c ≤ 9223372036854775807 ∧ Kp w w'
theorem OwnS.post {w w' : World} {base : Nat} {v : Value} {l : List ByteArray} {n : Nat} (h : OwnS w' base v l) (hn : l.length = n) (k : Kp w w') : NamesPost n l w (.returned v) w' := by
  rcases h.2 with ⟨rfl, h0⟩ | ⟨g, cap, cur, rfl, hb, hg, hc, hm, hs, ht⟩
  · have e : n = 0 := by omega
    subst e
    exact ⟨none, 0, rfl, ⟨none, 0, by rw [hn], fun h0 => by omega⟩, by omega, by omega, k⟩
  · subst hn
    refine ⟨_, _, rfl, ⟨_, _, rfl, fun _ => ⟨g, 0, rfl, fun i x hx => ?_⟩⟩, by omega, by unfold maxLen at hm; omega, k⟩
    have hi : i < l.length := (List.getElem?_eq_some_iff.1 hx).1
    rw [Nat.zero_add]
    exact (World.ownsRow.cellAt h i (by omega)).trans (by simp [hx])

theorem infoStr : (Tryz.prog.info? 9).map (fun i => (i.zero, i.size, i.bytes)) = some (some (.string ByteArray.empty), 1, 16) := by kernel_rfl
theorem mkStrs (n : Nat) (hn : n ≤ 1000) (w : World) :
    (Instr.makeSlice 112 (.int .i64 0) (.int .i64 (n : Int))).run Tryz.prog w = .ok (.slice (some ⟨w.heap.size, 0, none⟩) 0 n) (w.alloc (.cells (madeCells #[.string ByteArray.empty] n) 9)) := by
  obtain ⟨i, hi, hz, hs, hb⟩ := info_parts infoStr
  have hr := run_make (P := Tryz.prog) w 112 9 i (.string ByteArray.empty) Tryz.underlying112 hi hz .i64 .i64 0 (n : Int) (Int.le_refl _) (by omega) (by rw [hb]; omega) (by omega)
  rw [hs, Int.toNat_natCast, Nat.mul_one] at hr
  exact hr
theorem ownS_made (w : World) (n : Nat) (hn : n ≤ 1000) : OwnS (w.alloc (.cells (madeCells #[.string ByteArray.empty] n) 9)) w.heap.size (.slice (some ⟨w.heap.size, 0, none⟩) 0 n) [] := by
  unfold OwnS
  exact World.ownsRow_made w _ n (Nat.le_refl _) (by simp only [maxLen]; omega) (by rw [size_madeCells, Nat.mul_one])
theorem one_new (w : World) (x : Value) (t : TypeId) (b : Nat) (hb : b = w.heap.size) : ∀ j u, [x][j]? = some u → (w.alloc (.cells #[x] t)).cell? ((⟨b, 0, none⟩ : Addr).add j) = some u := by
  subst hb
  intro j u hj
  match j, hj with
  | 0, hj => simp at hj; subst hj; simp [Addr.add]

set_option maxRecDepth 100000 in
set_option maxHeartbeats 1000000 in
theorem terrainNames_any (At : Option Addr) (nt ct : Nat) (l : List Ter) (o : Value) (a b c d e : Int) (w : World) (h : RdT w At nt l) (hl : nt ≤ 1000) :
    Calls Tryz.prog 88 #[rv (.slice At nt ct) o a b c d e] w (NamesPost nt (tNames l) w) := by
  have HN := Lib.hid h.1
  have HA := Lib.hid h.2
  have hmk := fun w => mkStrs nt hl w
  obtain ⟨j0, hj0, hz0, hs0, hb0⟩ := info_parts infoStr
  clear h
  go_enter Tryz.func88, Tryz.ntmps88
  go_wp2_with fail
  have o1 := ownS_made (w.alloc (.cells #[.slice At nt ct, o, .int .i64 a, .int .i64 b, .int .i64 c, .int .i64 d, .int .i64 e] 35)) nt hl
  have k1 : Kp w ((w.alloc (.cells #[.slice At nt ct, o, .int .i64 a, .int .i64 b, .int .i64 c, .int .i64 d, .int .i64 e] 35)).alloc (.cells (madeCells #[.string ByteArray.empty] nt) 9)) := ((Kp.refl w).alloc _).alloc _
  clear hmk
  go_loopw [3, 5, 13] (fun v _ i wx => ∃ k : Nat, k ≤ nt ∧ i = .int .i64 k ∧ OwnS wx (w.heap.size + 1) v (tNames (l.take k)) ∧ Kp w wx) (fun _ _ i _ => nt - (intOf i).toNat)
  case atStart => exact ⟨0, by omega, rfl, by simpa [tNames] using o1, k1⟩
  case round =>
    clear o1 k1
    obtain ⟨k, hk, rfl, ho, kr⟩ := hrel
    by_cases hlt : k < nt
    · have hlt' : (k : Int) < nt := by omega
      obtain ⟨g, off, rfl, hc⟩ := HA.out (by omega)
      obtain ⟨x, hx⟩ : ∃ x, l[k]? = some x := ⟨l[k]'(by have := HN.out; omega), List.getElem?_eq_getElem _⟩
      have hT := (hc k x hx).keep kr
      obtain ⟨Ac, cc, ⟨a0, a1, a2, a3, a4⟩, _⟩ := hT
      have HO := Lib.hid ho
      have HX := Lib.hid hx
      clear hc hx ho
      obtain ⟨nm, cs, sh, hg, bl⟩ := x
      simp only at a0 a1 a2 a3 a4
      generalize cs.length = nc at a1
      have hln : Hid ((tNames (l.take k)).length ≤ k) := Lib.hid (by simp only [tNames, List.length_map, List.length_take]; omega)
      have HS : Hid (tNames (l.take (k + 1)) = tNames (l.take k) ++ [nm]) := Lib.hid (by unfold tNames; rw [List.take_add_one, HX.out]; simp)
      have hbk : w.heap.size ≤ wr.heap.size := kr.size
      go_wp2_with (at_builtin; refine wpList_append_own_at _ rfl (.tmp 17) (.tmp 20) 112 rfl (w.heap.size + 1) 9 j0 (.string ByteArray.empty) 1 16 Tryz.underlying112 hj0 hz0 hs0 hb0 rfl (by decide) _ (tNames (l.take k)).length ((tNames (l.take k)).map fun x => .string x) rfl (World.ownsRow.alloc (World.ownsRow.alloc HO.out _) _) ⟨wr.heap.size + 1, 0, none⟩ 1 1 [.string nm] rfl rfl (one_new _ _ _ _ (by simp)) (by simp [Value.oneCell']) (by have := hln.out; simp only [maxLen]; omega) (by have := hln.out; omega) (by simp; omega) ?_; intro v' w3 hown2 hgrow2 hnil2 hat2; clear hnil2 hat2; have O3 := Lib.hid (OwnS.snoc (x := nm) hown2); have K3 : Kp w w3 := ((kr.alloc _).alloc _).grown hgrow2 (fun k e => (by have := (World.ownsRow.lt HO.out k e).1; omega)); clear hown2 hgrow2)
      go_roundw
      case rel => exact ⟨k + 1, by omega, by go_num, by rw [HS.out]; exact O3.out, K3⟩
      case measure => simp [intOf]; omega
    · obtain rfl : k = nt := by omega
      go_wp2_with fail
      go_ret
      have e : l.take k = l := List.take_of_length_le (by have := HN.out; omega)
      rw [e] at ho
      exact ho.post (by have := HN.out; simpa [tNames] using this) kr

set_option maxRecDepth 100000 in
set_option maxHeartbeats 1000000 in
theorem kindNames_any (At : Option Addr) (nt ct : Nat) (l : List Knd) (o : Value) (a b c d e : Int) (w : World) (h : RdK w At nt l) (hl : nt ≤ 1000) :
    Calls Tryz.prog 89 #[rv o (.slice At nt ct) a b c d e] w (NamesPost nt (kNames l) w) := by
  have HN := Lib.hid h.1
  have HA := Lib.hid h.2
  have hmk := fun w => mkStrs nt hl w
  obtain ⟨j0, hj0, hz0, hs0, hb0⟩ := info_parts infoStr
  clear h
  go_enter Tryz.func89, Tryz.ntmps89
  go_wp2_with fail
  have o1 := ownS_made (w.alloc (.cells #[o, .slice At nt ct, .int .i64 a, .int .i64 b, .int .i64 c, .int .i64 d, .int .i64 e] 35)) nt hl
  have k1 : Kp w ((w.alloc (.cells #[o, .slice At nt ct, .int .i64 a, .int .i64 b, .int .i64 c, .int .i64 d, .int .i64 e] 35)).alloc (.cells (madeCells #[.string ByteArray.empty] nt) 9)) := ((Kp.refl w).alloc _).alloc _
  clear hmk
  go_loopw [3, 5, 13] (fun v _ i wx => ∃ k : Nat, k ≤ nt ∧ i = .int .i64 k ∧ OwnS wx (w.heap.size + 1) v (kNames (l.take k)) ∧ Kp w wx) (fun _ _ i _ => nt - (intOf i).toNat)
  case atStart => exact ⟨0, by omega, rfl, by simpa [kNames] using o1, k1⟩
  case round =>
    clear o1 k1
    obtain ⟨k, hk, rfl, ho, kr⟩ := hrel
    by_cases hlt : k < nt
    · have hlt' : (k : Int) < nt := by omega
      obtain ⟨g, off, rfl, hc⟩ := HA.out (by omega)
      obtain ⟨x, hx⟩ : ∃ x, l[k]? = some x := ⟨l[k]'(by have := HN.out; omega), List.getElem?_eq_getElem _⟩
      have hT := (hc k x hx).keep kr
      obtain ⟨a0, a1, a2, a3, a4, a5⟩ := hT
      have HO := Lib.hid ho
      have HX := Lib.hid hx
      clear hc hx ho
      obtain ⟨nm, ks, km, kt, kz, kw⟩ := x
      simp only at a0 a1 a2 a3 a4 a5
      have hln : Hid ((kNames (l.take k)).length ≤ k) := Lib.hid (by simp only [kNames, List.length_map, List.length_take]; omega)
      have HS : Hid (kNames (l.take (k + 1)) = kNames (l.take k) ++ [nm]) := Lib.hid (by unfold kNames; rw [List.take_add_one, HX.out]; simp)
      have hbk : w.heap.size ≤ wr.heap.size := kr.size
      go_wp2_with (at_builtin; refine wpList_append_own_at _ rfl (.tmp 17) (.tmp 20) 112 rfl (w.heap.size + 1) 9 j0 (.string ByteArray.empty) 1 16 Tryz.underlying112 hj0 hz0 hs0 hb0 rfl (by decide) _ (kNames (l.take k)).length ((kNames (l.take k)).map fun x => .string x) rfl (World.ownsRow.alloc (World.ownsRow.alloc HO.out _) _) ⟨wr.heap.size + 1, 0, none⟩ 1 1 [.string nm] rfl rfl (one_new _ _ _ _ (by simp)) (by simp [Value.oneCell']) (by have := hln.out; simp only [maxLen]; omega) (by have := hln.out; omega) (by simp; omega) ?_; intro v' w3 hown2 hgrow2 hnil2 hat2; clear hnil2 hat2; have O3 := Lib.hid (OwnS.snoc (x := nm) hown2); have K3 : Kp w w3 := ((kr.alloc _).alloc _).grown hgrow2 (fun k e => (by have := (World.ownsRow.lt HO.out k e).1; omega)); clear hown2 hgrow2)
      go_roundw
      case rel => exact ⟨k + 1, by omega, by go_num, by rw [HS.out]; exact O3.out, K3⟩
      case measure => simp [intOf]; omega
    · obtain rfl : k = nt := by omega
      go_wp2_with fail
      go_ret
      have e : l.take k = l := List.take_of_length_le (by have := HN.out; omega)
      rw [e] at ho
      exact ho.post (by have := HN.out; simpa [kNames] using this) kr

end Go.Proofs.YtmolpkjdjkhnpaaGreatDoor

/-
  The program's test of a terrain's numbers and its test of rules return what plain functions on lists say, and change nothing that was there. The ranges hold what the program's text lays.
-/
namespace Go.Proofs.YtmolpkjdjkhnpaaGreatDoor
open Go.RowKit

abbrev tv (n : ByteArray) (A : Option Addr) (nc cc : Nat) (s h : Int) (b : Bool) : Value := .agg #[.string n, .slice A nc cc, .int .i64 s, .int .i64 h, .bool b]
theorem dropA {α : Type} {l : List α} {k : Nat} {x : α} (h : l[k]? = some x) : l.drop k = x :: l.drop (k + 1) := by
  obtain ⟨hk, rfl⟩ := List.getElem?_eq_some_iff.1 h
  exact List.drop_eq_getElem_cons hk
theorem allA_no {α : Type} {f : α → Bool} {x : α} {l : List α} (h : f x = false) : (x :: l).all f = false := by simp [h]
theorem allA_go {α : Type} {f : α → Bool} {x : α} {l : List α} (h : f x = true) : (x :: l).all f = l.all f := by simp [h]

set_option maxRecDepth 100000 in
set_option maxHeartbeats 2000000 in
theorem tNumbers_any (n : ByteArray) (A : Option Addr) (nc cc : Nat) (s h : Int) (b : Bool) (l : List Int) (nk : Nat) (w : World) (hs : Spans w) (hl : l.length = nc) (hr : RdI w (.slice A nc cc) l) (hn : nc ≤ 1048576) (_hk : nk ≤ 1048576) :
    Calls Tryz.prog 85 #[tv n A nc cc s h b, .int .i64 (nk : Int)] w fun e w' => e = .returned (.bool (numT nk ⟨n, l, s, h, b⟩)) ∧ Kp w w' := by
  have s0 : (w.alloc (.cells #[.string n, .slice A nc cc, .int .i64 s, .int .i64 h, .bool b] 65)).cell? ⟨w.heap.size, 0, none⟩ = some (.string n) ∧ (w.alloc (.cells #[.string n, .slice A nc cc, .int .i64 s, .int .i64 h, .bool b] 65)).cell? ⟨w.heap.size, 1, none⟩ = some (.slice A nc cc) ∧ (w.alloc (.cells #[.string n, .slice A nc cc, .int .i64 s, .int .i64 h, .bool b] 65)).cell? ⟨w.heap.size, 2, none⟩ = some (.int .i64 s) ∧ (w.alloc (.cells #[.string n, .slice A nc cc, .int .i64 s, .int .i64 h, .bool b] 65)).cell? ⟨w.heap.size, 3, none⟩ = some (.int .i64 h) ∧ (w.alloc (.cells #[.string n, .slice A nc cc, .int .i64 s, .int .i64 h, .bool b] 65)).cell? ⟨w.heap.size, 4, none⟩ = some (.bool b) ∧ (w.alloc (.cells #[.string n, .slice A nc cc, .int .i64 s, .int .i64 h, .bool b] 65)).cell? ⟨7, 0, none⟩ = some (.int .i64 0) ∧ (w.alloc (.cells #[.string n, .slice A nc cc, .int .i64 s, .int .i64 h, .bool b] 65)).cell? ⟨7, 1, none⟩ = some (.int .i64 9) ∧ (w.alloc (.cells #[.string n, .slice A nc cc, .int .i64 s, .int .i64 h, .bool b] 65)).cell? ⟨8, 0, none⟩ = some (.int .i64 (-3)) ∧ (w.alloc (.cells #[.string n, .slice A nc cc, .int .i64 s, .int .i64 h, .bool b] 65)).cell? ⟨8, 1, none⟩ = some (.int .i64 3) ∧ (w.alloc (.cells #[.string n, .slice A nc cc, .int .i64 s, .int .i64 h, .bool b] 65)).cell? ⟨9, 0, none⟩ = some (.int .i64 0) ∧ (w.alloc (.cells #[.string n, .slice A nc cc, .int .i64 s, .int .i64 h, .bool b] 65)).cell? ⟨9, 1, none⟩ = some (.int .i64 3) ∧ Kp w (w.alloc (.cells #[.string n, .slice A nc cc, .int .i64 s, .int .i64 h, .bool b] 65)) :=
    ⟨by simp [go_sem], by simp [go_sem], by simp [go_sem], by simp [go_sem], by simp [go_sem], ((Kp.refl w).alloc _).cell hs.cost.1, ((Kp.refl w).alloc _).cell hs.cost.2, ((Kp.refl w).alloc _).cell hs.shift.1, ((Kp.refl w).alloc _).cell hs.shift.2, ((Kp.refl w).alloc _).cell hs.height.1, ((Kp.refl w).alloc _).cell hs.height.2, (Kp.refl w).alloc _⟩
  have HA : Hid (0 < nc → ∃ g off, A = some ⟨g, off, none⟩ ∧ ∀ i x, l[i]? = some x → w.cell? ⟨g, off + i, none⟩ = some (.int .i64 x)) := Lib.hid (by
    obtain ⟨A', c', e, hr⟩ := hr
    simp only [Value.slice.injEq] at e
    obtain ⟨rfl, _, _⟩ := e
    rw [hl] at hr
    exact hr)
  have HN := Lib.hid hl
  clear hs hr hl
  by_cases hne : nc = nk
  · have en : numT nk ⟨n, l, s, h, b⟩ = (l.all (spB 0 9) && (spB (-3) 3 s && spB 0 3 h)) := by simp [numT, HN.out, hne]
    rw [en]
    have q1 : ((nc : Int) != (nk : Int)) = false := by simp; omega
    have q2 : (nc != nk) = false := by simpa using hne
    obtain ⟨R, hR⟩ : ∃ R, R = l.all (spB 0 9) := ⟨_, rfl⟩
    rw [← hR]
    have HR := Lib.hid hR
    clear en hR hne
    go_enter Tryz.func85, Tryz.ntmps85
    go_wp2_with fail
    generalize w.alloc (.cells #[.string n, .slice A nc cc, .int .i64 s, .int .i64 h, .bool b] 65) = W0 at *
    go_loopw [6, 15] (fun _ i wr => ∃ k : Nat, k ≤ nc ∧ i = .int .i64 k ∧ Hid ((l.drop k).all (spB 0 9) = R) ∧ Kp W0 wr) (fun _ i _ => nc - (intOf i).toNat)
    case atStart => exact ⟨0, by omega, rfl, Lib.hid HR.out.symm, Kp.refl _⟩
    case round =>
      obtain ⟨k, hk, rfl, hE, kr⟩ := hrel
      by_cases hlt : k < nc
      · have hlt' : (k : Int) < nc := by omega
        obtain ⟨g, off, rfl, hc⟩ := HA.out (by omega)
        obtain ⟨x, hx⟩ : ∃ x, l[k]? = some x := ⟨l[k]'(by have := HN.out; omega), List.getElem?_eq_getElem _⟩
        have a0 := kr.cell (s0.2.2.2.2.2.2.2.2.2.2.2.cell (hc k x hx))
        have HX := Lib.hid (dropA hx)
        have c0 := kr.cell s0.2.2.2.2.2.1
        have c1 := kr.cell s0.2.2.2.2.2.2.1
        clear hc hx
        cases hok : spB 0 9 x
        · have HE2 : Hid (R = false) := Lib.hid (by rw [← hE.out, HX.out]; exact allA_no hok)
          go_wp2_with fail
          refine (has_any _ _ _ _).mono ?_
          rintro e1 wa ⟨rfl, ka⟩
          go_wp2_with fail
          go_ret
          exact ⟨ret_bool (by rw [HE2.out]; rfl), s0.2.2.2.2.2.2.2.2.2.2.2.trans (kr.trans ka)⟩
        · have HE2 : Hid ((l.drop (k + 1)).all (spB 0 9) = R) := Lib.hid (by rw [← hE.out, HX.out]; exact (allA_go hok).symm)
          go_wp2_with fail
          refine (has_any _ _ _ _).mono ?_
          rintro e1 wa ⟨rfl, ka⟩
          go_wp2_with fail
          go_roundw
          case rel => exact ⟨k + 1, by omega, by go_num, HE2, kr.trans ka⟩
          case measure => simp [intOf]; omega
      · obtain rfl : k = nc := by omega
        have HR1 : Hid (R = true) := Lib.hid (by rw [← hE.out, List.drop_of_length_le (by rw [HN.out]; omega)]; rfl)
        have c0 := kr.cell s0.2.2.2.2.2.2.2.1
        have c1 := kr.cell s0.2.2.2.2.2.2.2.2.1
        have c2 := kr.cell s0.2.2.1
        cases h1 : spB (-3) 3 s
        · go_wp2_with fail
          refine (has_any _ _ _ _).mono ?_
          rintro e1 wa ⟨rfl, ka⟩
          go_wp2_with fail
          go_ret
          exact ⟨ret_bool (by rw [HR1.out, h1]; rfl), s0.2.2.2.2.2.2.2.2.2.2.2.trans (kr.trans ka)⟩
        · go_wp2_with fail
          refine (has_any _ _ _ _).mono ?_
          rintro e1 wa ⟨rfl, ka⟩
          have Ka : Kp W0 wa := kr.trans ka
          have d0 := Ka.cell s0.2.2.2.2.2.2.2.2.2.1
          have d1 := Ka.cell s0.2.2.2.2.2.2.2.2.2.2.1
          have d2 := Ka.cell s0.2.2.2.1
          go_wp2_with fail
          refine (has_any _ _ _ _).mono ?_
          rintro e2 wb ⟨rfl, kb⟩
          go_wp2_with fail
          go_ret
          exact ⟨ret_bool (by rw [HR1.out, h1]; rfl), s0.2.2.2.2.2.2.2.2.2.2.2.trans (Ka.trans kb)⟩
  · have en : numT nk ⟨n, l, s, h, b⟩ = false := by simp [numT, HN.out, hne]
    rw [en]
    have q1 : ((nc : Int) != (nk : Int)) = true := by simp; omega
    have q2 : (nc != nk) = true := by simpa using hne
    have KE := Lib.hid s0.2.2.2.2.2.2.2.2.2.2.2
    clear en hne s0
    go_enter Tryz.func85, Tryz.ntmps85
    go_wp2_with fail
    go_ret
    exact ⟨rfl, KE.out⟩

end Go.Proofs.YtmolpkjdjkhnpaaGreatDoor

/-
  The laws' comparison of rules: two that hold the same lists and numbers are equal. Nothing that was there is changed.
-/
namespace Go.Proofs.YtmolpkjdjkhnpaaGreatDoor
open Go.RowKit

theorem keepc5 {w w1 : World} {p0 p1 p2 p3 p4 : Addr} {v0 v1 v2 v3 v4 : Value} (k : Kp w w1) (h : w.cell? p0 = some v0 ∧ w.cell? p1 = some v1 ∧ w.cell? p2 = some v2 ∧ w.cell? p3 = some v3 ∧ w.cell? p4 = some v4) : w1.cell? p0 = some v0 ∧ w1.cell? p1 = some v1 ∧ w1.cell? p2 = some v2 ∧ w1.cell? p3 = some v3 ∧ w1.cell? p4 = some v4 :=
  ⟨k.cell h.1, k.cell h.2.1, k.cell h.2.2.1, k.cell h.2.2.2.1, k.cell h.2.2.2.2⟩
theorem keepc6 {w w1 : World} {p0 p1 p2 p3 p4 p5 : Addr} {v0 v1 v2 v3 v4 v5 : Value} (k : Kp w w1) (h : w.cell? p0 = some v0 ∧ w.cell? p1 = some v1 ∧ w.cell? p2 = some v2 ∧ w.cell? p3 = some v3 ∧ w.cell? p4 = some v4 ∧ w.cell? p5 = some v5) : w1.cell? p0 = some v0 ∧ w1.cell? p1 = some v1 ∧ w1.cell? p2 = some v2 ∧ w1.cell? p3 = some v3 ∧ w1.cell? p4 = some v4 ∧ w1.cell? p5 = some v5 :=
  ⟨k.cell h.1, k.cell h.2.1, k.cell h.2.2.1, k.cell h.2.2.2.1, k.cell h.2.2.2.2.1, k.cell h.2.2.2.2.2⟩
theorem keepc10 {w w1 : World} {p0 p1 p2 p3 p4 p5 p6 p7 p8 p9 : Addr} {v0 v1 v2 v3 v4 v5 v6 v7 v8 v9 : Value} (k : Kp w w1) (h : w.cell? p0 = some v0 ∧ w.cell? p1 = some v1 ∧ w.cell? p2 = some v2 ∧ w.cell? p3 = some v3 ∧ w.cell? p4 = some v4 ∧ w.cell? p5 = some v5 ∧ w.cell? p6 = some v6 ∧ w.cell? p7 = some v7 ∧ w.cell? p8 = some v8 ∧ w.cell? p9 = some v9) : w1.cell? p0 = some v0 ∧ w1.cell? p1 = some v1 ∧ w1.cell? p2 = some v2 ∧ w1.cell? p3 = some v3 ∧ w1.cell? p4 = some v4 ∧ w1.cell? p5 = some v5 ∧ w1.cell? p6 = some v6 ∧ w1.cell? p7 = some v7 ∧ w1.cell? p8 = some v8 ∧ w1.cell? p9 = some v9 :=
  ⟨k.cell h.1, k.cell h.2.1, k.cell h.2.2.1, k.cell h.2.2.2.1, k.cell h.2.2.2.2.1, k.cell h.2.2.2.2.2.1, k.cell h.2.2.2.2.2.2.1, k.cell h.2.2.2.2.2.2.2.1, k.cell h.2.2.2.2.2.2.2.2.1, k.cell h.2.2.2.2.2.2.2.2.2⟩
theorem keepc12 {w w1 : World} {p0 p1 p2 p3 p4 p5 p6 p7 p8 p9 p10 p11 : Addr} {v0 v1 v2 v3 v4 v5 v6 v7 v8 v9 v10 v11 : Value} (k : Kp w w1) (h : w.cell? p0 = some v0 ∧ w.cell? p1 = some v1 ∧ w.cell? p2 = some v2 ∧ w.cell? p3 = some v3 ∧ w.cell? p4 = some v4 ∧ w.cell? p5 = some v5 ∧ w.cell? p6 = some v6 ∧ w.cell? p7 = some v7 ∧ w.cell? p8 = some v8 ∧ w.cell? p9 = some v9 ∧ w.cell? p10 = some v10 ∧ w.cell? p11 = some v11) : w1.cell? p0 = some v0 ∧ w1.cell? p1 = some v1 ∧ w1.cell? p2 = some v2 ∧ w1.cell? p3 = some v3 ∧ w1.cell? p4 = some v4 ∧ w1.cell? p5 = some v5 ∧ w1.cell? p6 = some v6 ∧ w1.cell? p7 = some v7 ∧ w1.cell? p8 = some v8 ∧ w1.cell? p9 = some v9 ∧ w1.cell? p10 = some v10 ∧ w1.cell? p11 = some v11 :=
  ⟨k.cell h.1, k.cell h.2.1, k.cell h.2.2.1, k.cell h.2.2.2.1, k.cell h.2.2.2.2.1, k.cell h.2.2.2.2.2.1, k.cell h.2.2.2.2.2.2.1, k.cell h.2.2.2.2.2.2.2.1, k.cell h.2.2.2.2.2.2.2.2.1, k.cell h.2.2.2.2.2.2.2.2.2.1, k.cell h.2.2.2.2.2.2.2.2.2.2.1, k.cell h.2.2.2.2.2.2.2.2.2.2.2⟩

theorem RdI.of_slice {w : World} {A : Option Addr} {n c : Nat} {l : List Int} (h : RdI w (.slice A n c) l) : l.length = n := by
  obtain ⟨A', c', e, _⟩ := h
  simp only [Value.slice.injEq] at e
  exact e.2.1.symm

set_option maxRecDepth 100000 in
set_option maxHeartbeats 1000000 in
theorem eqTerrain_same (nm : ByteArray) (A B : Option Addr) (nc ca cb : Nat) (s h : Int) (b : Bool) (l : List Int) (w : World) (ha : RdI w (.slice A nc ca) l) (hb : RdI w (.slice B nc cb) l) (hn : nc ≤ 1048576) :
    Calls Tryz.prog 78 #[tv nm A nc ca s h b, tv nm B nc cb s h b] w fun e w' => e = .returned (.bool true) ∧ Kp w w' := by
  have hl : l.length ≤ 1048576 := by rw [ha.of_slice]; exact hn
  have KA : Kp w ((w.alloc (.cells #[.string nm, .slice A nc ca, .int .i64 s, .int .i64 h, .bool b] 65)).alloc (.cells #[.string nm, .slice B nc cb, .int .i64 s, .int .i64 h, .bool b] 65)) := ((Kp.refl w).alloc _).alloc _
  have HA := Lib.hid (ha.keep KA)
  have HB := Lib.hid (hb.keep KA)
  have e1 : (nm.toList != nm.toList) = false := by simp
  have e2 : (s != s) = false := by simp
  have e3 : (h != h) = false := by simp
  have e4 : (b != b) = false := by simp
  have HL := Lib.hid hl
  clear ha hb hl
  go_enter Tryz.func78, Tryz.ntmps78
  go_wp2_with fail
  refine (eqIntS_same _ _ l _ HA.out HB.out HL.out).mono ?_
  rintro x1 w1 ⟨rfl, k1⟩
  have p2 : w1.cell? ⟨w.heap.size, 2, none⟩ = some (.int .i64 s) := k1.cell (by simp [go_sem])
  have p3 : w1.cell? ⟨w.heap.size, 3, none⟩ = some (.int .i64 h) := k1.cell (by simp [go_sem])
  have p4 : w1.cell? ⟨w.heap.size, 4, none⟩ = some (.bool b) := k1.cell (by simp [go_sem])
  have q2 : w1.cell? ⟨w.heap.size + 1, 2, none⟩ = some (.int .i64 s) := k1.cell (by simp [go_sem])
  have q3 : w1.cell? ⟨w.heap.size + 1, 3, none⟩ = some (.int .i64 h) := k1.cell (by simp [go_sem])
  have q4 : w1.cell? ⟨w.heap.size + 1, 4, none⟩ = some (.bool b) := k1.cell (by simp [go_sem])
  have K1 : Kp w w1 := KA.trans k1
  clear k1 KA
  go_wp2_with fail
  go_ret
  exact ⟨rfl, K1⟩

theorem eqKind_same (nm : ByteArray) (a b c : Int) (z : Bool) (v : Int) (w : World) :
    Calls Tryz.prog 79 #[kv nm a b c z v, kv nm a b c z v] w fun e w' => e = .returned (.bool true) ∧ Kp w w' := by
  have e1 : (nm.toList != nm.toList) = false := by simp
  have e2 : (a != a) = false := by simp
  have e3 : (b != b) = false := by simp
  have e4 : (c != c) = false := by simp
  have e5 : (z != z) = false := by simp
  have e6 : (v != v) = false := by simp
  go_enter Tryz.func79, Tryz.ntmps79
  go_wp2_with fail
  go_ret
  exact ⟨rfl, ((Kp.refl w).alloc _).alloc _⟩

set_option maxRecDepth 100000 in
set_option maxHeartbeats 2000000 in
theorem eqTerrainS_same (A B : Option Addr) (n ca cb : Nat) (l : List Ter) (w : World) (ha : RdT w A n l) (hb : RdT w B n l) (hn : n ≤ 1048576) (hcb : ∀ x ∈ l, x.cost.length ≤ 1048576) :
    Calls Tryz.prog 48 #[.slice A n ca, .slice B n cb] w fun e w' => e = .returned (.bool true) ∧ Kp w w' := by
  have HA := Lib.hid ha.2
  have HB := Lib.hid hb.2
  have HN := Lib.hid ha.1
  have HB2 := Lib.hid hcb
  clear hcb
  clear ha hb
  go_enter Tryz.func48, Tryz.ntmps48
  go_wp2_with fail
  go_loopw [5] (fun i wr => ∃ k : Nat, k ≤ n ∧ i = .int .i64 k ∧ Kp w wr) (fun i _ => n - (intOf i).toNat)
  case atStart => exact ⟨0, by omega, rfl, Kp.refl _⟩
  case round =>
    obtain ⟨k, hk, rfl, kr⟩ := hrel
    by_cases hlt : k < n
    · have hlt' : (k : Int) < n := by omega
      obtain ⟨ga, oa, rfl, ca'⟩ := HA.out (by omega)
      obtain ⟨gb, ob, rfl, cb'⟩ := HB.out (by omega)
      obtain ⟨x, hx⟩ : ∃ x, l[k]? = some x := ⟨l[k]'(by have := HN.out; omega), List.getElem?_eq_getElem _⟩
      obtain ⟨Aa, xca, ⟨a0, a1, a2, a3, a4⟩, ra⟩ := (ca' k x hx).keep kr
      obtain ⟨Ab, xcb, ⟨b0, b1, b2, b3, b4⟩, rb⟩ := (cb' k x hx).keep kr
      have hnc := HB2.out x (List.mem_of_getElem? hx)
      obtain ⟨nm, cs, sh, hg, bl⟩ := x
      simp only at a0 a1 a2 a3 a4 b0 b1 b2 b3 b4 ra rb hnc
      generalize cs.length = nc at a1 b1 ra rb hnc
      have RA := Lib.hid (ra.keep (Kp.refl wr).drew)
      have RB := Lib.hid (rb.keep (Kp.refl wr).drew)
      clear ra rb
      clear ca' cb' hx
      go_wp2_with fail
      go_region_held3 (fun w' => w'.cell? ⟨ga, oa + k * 5, none⟩ = some (.string nm) ∧ w'.cell? ⟨ga, oa + k * 5 + 1, none⟩ = some (.slice Aa nc xca) ∧ w'.cell? ⟨ga, oa + k * 5 + 2, none⟩ = some (.int .i64 sh) ∧ w'.cell? ⟨ga, oa + k * 5 + 3, none⟩ = some (.int .i64 hg) ∧ w'.cell? ⟨ga, oa + k * 5 + 4, none⟩ = some (.bool bl) ∧ w'.cell? ⟨gb, ob + k * 5, none⟩ = some (.string nm) ∧ w'.cell? ⟨gb, ob + k * 5 + 1, none⟩ = some (.slice Ab nc xcb) ∧ w'.cell? ⟨gb, ob + k * 5 + 2, none⟩ = some (.int .i64 sh) ∧ w'.cell? ⟨gb, ob + k * 5 + 3, none⟩ = some (.int .i64 hg) ∧ w'.cell? ⟨gb, ob + k * 5 + 4, none⟩ = some (.bool bl)) (first | assumption | go_keep)
        (first | (go_at_call 78; refine (eqTerrain_same _ _ _ _ _ _ _ _ _ cs _ RA.out RB.out hnc).mono ?_; rintro e w1 ⟨rfl, k1⟩; have s1 := keepc10 k1 (by assumption)))
      all_goals
        go_wp2_with fail
        go_roundw
        case rel => exact ⟨k + 1, by omega, by go_num, kr.drew.trans k1⟩
        case measure => simp [intOf]; omega
    · obtain rfl : k = n := by omega
      go_wp2_with fail
      go_ret
      exact ⟨rfl, kr⟩

set_option maxRecDepth 100000 in
set_option maxHeartbeats 2000000 in
theorem eqKindS_same (A B : Option Addr) (n ca cb : Nat) (l : List Knd) (w : World) (ha : RdK w A n l) (hb : RdK w B n l) (hn : n ≤ 1048576) :
    Calls Tryz.prog 49 #[.slice A n ca, .slice B n cb] w fun e w' => e = .returned (.bool true) ∧ Kp w w' := by
  have HA := Lib.hid ha.2
  have HB := Lib.hid hb.2
  have HN := Lib.hid ha.1
  skip
  clear ha hb
  go_enter Tryz.func49, Tryz.ntmps49
  go_wp2_with fail
  go_loopw [5] (fun i wr => ∃ k : Nat, k ≤ n ∧ i = .int .i64 k ∧ Kp w wr) (fun i _ => n - (intOf i).toNat)
  case atStart => exact ⟨0, by omega, rfl, Kp.refl _⟩
  case round =>
    obtain ⟨k, hk, rfl, kr⟩ := hrel
    by_cases hlt : k < n
    · have hlt' : (k : Int) < n := by omega
      obtain ⟨ga, oa, rfl, ca'⟩ := HA.out (by omega)
      obtain ⟨gb, ob, rfl, cb'⟩ := HB.out (by omega)
      obtain ⟨x, hx⟩ : ∃ x, l[k]? = some x := ⟨l[k]'(by have := HN.out; omega), List.getElem?_eq_getElem _⟩
      obtain ⟨a0, a1, a2, a3, a4, a5⟩ := (ca' k x hx).keep kr
      obtain ⟨b0, b1, b2, b3, b4, b5⟩ := (cb' k x hx).keep kr
      obtain ⟨nm, ks, km, kt, kz, kw⟩ := x
      simp only at a0 a1 a2 a3 a4 a5 b0 b1 b2 b3 b4 b5
      clear ca' cb' hx
      go_wp2_with fail
      go_region_held3 (fun w' => w'.cell? ⟨ga, oa + k * 6, none⟩ = some (.string nm) ∧ w'.cell? ⟨ga, oa + k * 6 + 1, none⟩ = some (.int .i64 ks) ∧ w'.cell? ⟨ga, oa + k * 6 + 2, none⟩ = some (.int .i64 km) ∧ w'.cell? ⟨ga, oa + k * 6 + 3, none⟩ = some (.int .i64 kt) ∧ w'.cell? ⟨ga, oa + k * 6 + 4, none⟩ = some (.bool kz) ∧ w'.cell? ⟨ga, oa + k * 6 + 5, none⟩ = some (.int .i64 kw) ∧ w'.cell? ⟨gb, ob + k * 6, none⟩ = some (.string nm) ∧ w'.cell? ⟨gb, ob + k * 6 + 1, none⟩ = some (.int .i64 ks) ∧ w'.cell? ⟨gb, ob + k * 6 + 2, none⟩ = some (.int .i64 km) ∧ w'.cell? ⟨gb, ob + k * 6 + 3, none⟩ = some (.int .i64 kt) ∧ w'.cell? ⟨gb, ob + k * 6 + 4, none⟩ = some (.bool kz) ∧ w'.cell? ⟨gb, ob + k * 6 + 5, none⟩ = some (.int .i64 kw)) (first | assumption | go_keep)
        (first | (go_at_call 79; refine (eqKind_same _ _ _ _ _ _ _).mono ?_; rintro e w1 ⟨rfl, k1⟩; have s1 := keepc12 k1 (by assumption)))
      all_goals
        go_wp2_with fail
        go_roundw
        case rel => exact ⟨k + 1, by omega, by go_num, kr.drew.trans k1⟩
        case measure => simp [intOf]; omega
    · obtain rfl : k = n := by omega
      go_wp2_with fail
      go_ret
      exact ⟨rfl, kr⟩

set_option maxRecDepth 100000 in
set_option maxHeartbeats 1000000 in
theorem eqRules_same (At Ak Bt Bk : Option Addr) (nt nk ct ck dt dk : Nat) (l : List Ter) (m : List Knd) (a b c d e : Int) (w : World) (ht : RdT w At nt l) (hk : RdK w Ak nk m) (gt : RdT w Bt nt l) (gk : RdK w Bk nk m) (hb1 : nt ≤ 1048576) (hb2 : nk ≤ 1048576) (hcb : ∀ x ∈ l, x.cost.length ≤ 1048576) :
    Calls Tryz.prog 21 #[rv (.slice At nt ct) (.slice Ak nk ck) a b c d e, rv (.slice Bt nt dt) (.slice Bk nk dk) a b c d e] w fun e' w' => e' = .returned (.bool true) ∧ Kp w w' := by
  have KA : Kp w ((w.alloc (.cells #[.slice At nt ct, .slice Ak nk ck, .int .i64 a, .int .i64 b, .int .i64 c, .int .i64 d, .int .i64 e] 35)).alloc (.cells #[.slice Bt nt dt, .slice Bk nk dk, .int .i64 a, .int .i64 b, .int .i64 c, .int .i64 d, .int .i64 e] 35)) := ((Kp.refl w).alloc _).alloc _
  have H1 := Lib.hid (ht.keep KA)
  have H2 := Lib.hid (gt.keep KA)
  have H3 := Lib.hid (hk.keep KA)
  have H4 := Lib.hid (gk.keep KA)
  have H5 := Lib.hid hcb
  have e1 : (a != a) = false := by simp
  have e2 : (b != b) = false := by simp
  have e3 : (c != c) = false := by simp
  have e4 : (d != d) = false := by simp
  have e5 : (e != e) = false := by simp
  clear ht hk gt gk hcb
  go_enter Tryz.func21, Tryz.ntmps21
  go_wp2_with fail
  refine (eqTerrainS_same _ _ _ _ _ l _ H1.out H2.out hb1 H5.out).mono ?_
  rintro x1 w1 ⟨rfl, k1⟩
  have p1 : w1.cell? ⟨w.heap.size, 1, none⟩ = some (.slice Ak nk ck) := k1.cell (by simp [go_sem])
  have p2 : w1.cell? ⟨w.heap.size, 2, none⟩ = some (.int .i64 a) := k1.cell (by simp [go_sem])
  have p3 : w1.cell? ⟨w.heap.size, 3, none⟩ = some (.int .i64 b) := k1.cell (by simp [go_sem])
  have p4 : w1.cell? ⟨w.heap.size, 4, none⟩ = some (.int .i64 c) := k1.cell (by simp [go_sem])
  have p5 : w1.cell? ⟨w.heap.size, 5, none⟩ = some (.int .i64 d) := k1.cell (by simp [go_sem])
  have p6 : w1.cell? ⟨w.heap.size, 6, none⟩ = some (.int .i64 e) := k1.cell (by simp [go_sem])
  have q1 : w1.cell? ⟨w.heap.size + 1, 1, none⟩ = some (.slice Bk nk dk) := k1.cell (by simp [go_sem])
  have q2 : w1.cell? ⟨w.heap.size + 1, 2, none⟩ = some (.int .i64 a) := k1.cell (by simp [go_sem])
  have q3 : w1.cell? ⟨w.heap.size + 1, 3, none⟩ = some (.int .i64 b) := k1.cell (by simp [go_sem])
  have q4 : w1.cell? ⟨w.heap.size + 1, 4, none⟩ = some (.int .i64 c) := k1.cell (by simp [go_sem])
  have q5 : w1.cell? ⟨w.heap.size + 1, 5, none⟩ = some (.int .i64 d) := k1.cell (by simp [go_sem])
  have q6 : w1.cell? ⟨w.heap.size + 1, 6, none⟩ = some (.int .i64 e) := k1.cell (by simp [go_sem])
  have K1 : Kp w w1 := KA.trans k1
  have H3b := Lib.hid (H3.out.keep k1)
  have H4b := Lib.hid (H4.out.keep k1)
  clear k1 KA
  go_wp2_with fail
  refine (eqKindS_same _ _ _ _ _ m _ H3b.out H4b.out hb2).mono ?_
  rintro x2 w2 ⟨rfl, k2⟩
  replace p2 := k2.cell p2
  replace p3 := k2.cell p3
  replace p4 := k2.cell p4
  replace p5 := k2.cell p5
  replace p6 := k2.cell p6
  replace q2 := k2.cell q2
  replace q3 := k2.cell q3
  replace q4 := k2.cell q4
  replace q5 := k2.cell q5
  replace q6 := k2.cell q6
  have K2 : Kp w w2 := K1.trans k2
  clear k2 K1 p1 q1
  go_wp2_with fail
  go_ret
  exact ⟨rfl, K2⟩

end Go.Proofs.YtmolpkjdjkhnpaaGreatDoor

/-
  A law that returns true and leaves all old memory as it was meets its row: the arguments and the named variables read as before. No program is looked into here.
-/
namespace Go.Proofs.YtmolpkjdjkhnpaaGreatDoor
open Go.ChangeShapes Go.WideShapes Go.ChangeAt Go.RowKit Go.Joins

/-- Each type of the list can be read and is a row of the program's table. -/
def rowedAll (P : Program) (ts : List TypeId) : Bool := ts.all fun t => P.readableRec t && decide (t < P.types.size)

theorem args_kept {H : Type} {enc : TypeId × Value → H} {P : Program} (hl : laidOutB P = true) {W W' : World} (hb : Below W.heap.size W W') :
    ∀ (ts : List TypeId) (vs : List Value) (ds : List (DataW H)) (ps : List MemPlace), rowedAll P ts = true → (∀ x ∈ ps, x.block < W.heap.size) →
      DataW.TrodAll enc P W 0 (fun _ => true) true ts vs ds ps → DataW.TrodAll enc P W' 0 (fun b => decide (b < W.heap.size)) true ts vs ds ps
  | [], [], [], _, _, _, h => h
  | t :: ts, v :: vs, d :: ds, ps, hr, hlt, h => by
    obtain ⟨p, q, h1, h2, rfl⟩ := h
    simp only [rowedAll, List.all_cons, Bool.and_eq_true] at hr
    exact ⟨p, q, Below.trod hl hr.1.1 (of_decide_eq_true hr.1.2) h1 hb (fun x hx => hlt x (List.mem_append_left _ hx)),
      args_kept hl hb ts vs ds q (by simpa [rowedAll] using hr.2) (fun x hx => hlt x (List.mem_append_right _ hx)) h2, rfl⟩
  | [], [], _ :: _, _, _, _, h => h.elim
  | [], _ :: _, _, _, _, _, h => h.elim
  | _ :: _, [], _, _, _, _, h => h.elim
  | _ :: _, _ :: _, [], _, _, _, h => h.elim

theorem law_post {H : Type} {enc : TypeId × Value → H} {P : Program} {f : Func} {s : ChangeSpec} {apart fresh handsOn : Bool} {W W' : World} {args : Array Value} {ds gs : List (DataW H)} {before : List MemPlace} {tb : TypeId}
    (hW : DataW.Whole enc P f.params.toList s.vars apart W args.toList ds gs before)
    (hl : laidOutB P = true) (hr : rowedAll P f.params.toList = true) (hv : varsRowed P s.vars = true)
    (hres : f.resultTypes = #[tb]) (htb : P.underlying tb = some .bool)
    (hfn : s.fn H (ds ++ gs) = { results := [.lit (.bool true)], args := ds, vars := gs }) (hb : Below W.heap.size W W') :
    s.post enc P f apart fresh handsOn false W args (.bool true) W' := by
  have hlt := hW.lt
  have hW0 := hW
  obtain ⟨p, q, hA, hV, rfl, _, _⟩ := hW
  refine ⟨ds, gs, p ++ q, [], p, q, hW0, ?_, ?_, ?_, hb.frame _, fun h => by cases h⟩
  · rw [hfn, hres]
    exact trodAll_mk1 (shut_bool htb true)
  · rw [hfn]
    exact args_kept hl hb _ _ _ _ hr (fun x hx => hlt x (List.mem_append_left _ hx)) hA
  · rw [hfn]
    exact Below.trodVars hl hb hv hV

theorem own : ownKnob Tryz.prog.godebug = none := by kernel_rfl
theorem laidOut : laidOutB Tryz.prog = true := by kernel_rfl
end Go.Proofs.YtmolpkjdjkhnpaaGreatDoor

/-
  An argument that is a slice of integers reads as a list.
-/
namespace Go.Proofs.YtmolpkjdjkhnpaaGreatDoor
open Go.ChangeShapes Go.WideShapes Go.ChangeAt Go.RowKit Go.Joins

theorem cellsInt1 : Tryz.prog.cellsOf 3 = 1 := by kernel_rfl
set_option maxRecDepth 100000 in
theorem rdI_of_trod {H : Type} {enc : TypeId × Value → H} {W : World} {base : Nat} {v : Value} {d : DataW H} {p : List MemPlace}
    (hv : Value.okWide Tryz.prog W .any base 26 v) (h : DataW.Trod enc Tryz.prog W 0 (fun _ => true) true 26 v d p) : ∃ l, RdI W v l := by
  obtain ⟨a0, len, cap, rfl⟩ := okWide_slice Tryz.underlying26 hv
  obtain ⟨fuel, hf⟩ := h
  rcases open_ints Tryz.underlying26 Tryz.underlying3 cellsInt1 hf with ⟨hcs, hx⟩ | ⟨a, len', cap', zs, hcs, _, hl, hm, hz, hx, hcell, hwz⟩
  · simp only [Value.cells, List.cons.injEq, Value.slice.injEq, and_true] at hcs
    obtain ⟨rfl, rfl, rfl⟩ := hcs
    exact ⟨[], none, 0, rfl, fun h0 => by simp at h0⟩
  · simp only [Value.cells, List.cons.injEq, Value.slice.injEq, and_true] at hcs
    obtain ⟨rfl, rfl, rfl⟩ := hcs
    have hzl : len ≤ zs.length := by rw [hz]; simpa using hl
    have hlen : (zs.take len).length = len := by rw [List.length_take]; omega
    refine ⟨zs.take len, some a, cap, by rw [hlen], fun h0 => ?_⟩
    obtain ⟨b, off, rfl, hc⟩ := ints_at hcell (by omega)
    refine ⟨b, off, rfl, fun i x hi => ?_⟩
    rw [List.getElem?_take] at hi
    split at hi
    · have hil : i < zs.length := (List.getElem?_eq_some_iff.1 hi).1
      rw [hc i hil]
      simp [List.getD, hi]
    · cases hi

set_option maxRecDepth 100000 in
/-- An argument that is a slice of integers: the list, its length and its numbers within Go's own bounds. -/
theorem rdB_of_trod {H : Type} {enc : TypeId × Value → H} {W : World} {v : Value} {n : Nat} {y : DataW H × List MemPlace}
    (hf : DataW.trod enc Tryz.prog W 0 (fun _ => true) true n 26 [v] = some y) : ∃ l, RdI W v l ∧ l.length ≤ 9223372036854775807 ∧ ∀ x ∈ l, -9223372036854775808 ≤ x ∧ x ≤ 9223372036854775807 := by
  rcases open_ints Tryz.underlying26 Tryz.underlying3 cellsInt1 hf with ⟨hcs, hx⟩ | ⟨a, len, cap, zs, hcs, _, hl, hm, hz, hx, hcell, hwz⟩
  · simp only [List.cons.injEq, and_true] at hcs
    obtain rfl := hcs
    exact ⟨[], ⟨none, 0, rfl, fun h0 => by simp at h0⟩, by simp, fun x hx => by cases hx⟩
  · simp only [List.cons.injEq, and_true] at hcs
    obtain rfl := hcs
    have hzl : len ≤ zs.length := by rw [hz]; simpa using hl
    have hlen : (zs.take len).length = len := by rw [List.length_take]; omega
    refine ⟨zs.take len, ⟨some a, cap, by rw [hlen], fun h0 => ?_⟩, by rw [hlen]; unfold maxLen at hm; omega, fun x hx => bounds_i64 (hwz x (List.mem_of_mem_take hx))⟩
    obtain ⟨b, off, rfl, hc⟩ := ints_at hcell (by omega)
    refine ⟨b, off, rfl, fun i x hi => ?_⟩
    rw [List.getElem?_take] at hi
    split at hi
    · have hil : i < zs.length := (List.getElem?_eq_some_iff.1 hi).1
      rw [hc i hil]
      simp [List.getD, hi]
    · cases hi
end Go.Proofs.YtmolpkjdjkhnpaaGreatDoor

/-
  The laws' own functions on maps: the size, the copy (in memory of its own), the comparison of two maps that read as the same lists. Nothing that was there is changed.
-/
namespace Go.Proofs.YtmolpkjdjkhnpaaGreatDoor
open Go.RowKit

/-- Three slices that the call owns, in blocks of their own from a number on. -/
structure Own3 (w : World) (base : Nat) (t r d : Value) (lt lr ld : List Int) : Prop where
  ot : OwnI w base t lt
  or : OwnI w base r lr
  od : OwnI w base d ld
  tr : ∀ g, t.ownBlock = some g → r.ownBlock ≠ some g
  td : ∀ g, t.ownBlock = some g → d.ownBlock ≠ some g
  rd : ∀ g, r.ownBlock = some g → d.ownBlock ≠ some g
theorem Own3.keep {w w' : World} {base : Nat} {t r d : Value} {lt lr ld : List Int} (h : Own3 w base t r d lt lr ld) (k : Kp w w') : Own3 w' base t r d lt lr ld :=
  ⟨h.ot.keep k, h.or.keep k, h.od.keep k, h.tr, h.td, h.rd⟩

abbrev Live5 (w : World) (b : Nat) (v0 v1 v2 v3 v4 : Value) : Prop :=
  (w.cell? ⟨b, 0, none⟩ = some v0 ∧ w.frozen? ⟨b, 0, none⟩ = false) ∧ (w.cell? ⟨b, 1, none⟩ = some v1 ∧ w.frozen? ⟨b, 1, none⟩ = false) ∧ (w.cell? ⟨b, 2, none⟩ = some v2 ∧ w.frozen? ⟨b, 2, none⟩ = false) ∧ (w.cell? ⟨b, 3, none⟩ = some v3 ∧ w.frozen? ⟨b, 3, none⟩ = false) ∧ (w.cell? ⟨b, 4, none⟩ = some v4 ∧ w.frozen? ⟨b, 4, none⟩ = false)
theorem live5_keep {w w' : World} {b : Nat} {v0 v1 v2 v3 v4 : Value} (k : Kp w w') (h : Live5 w b v0 v1 v2 v3 v4) : Live5 w' b v0 v1 v2 v3 v4 :=
  ⟨k.liv h.1, k.liv h.2.1, k.liv h.2.2.1, k.liv h.2.2.2.1, k.liv h.2.2.2.2⟩

def szTot (a b c : Nat) : Int := if a + b + c ≤ 1048576 then 1048576 - (a + b + c : Nat) else -1

theorem szMap_any (W H : Int) (At Ar Ad : Option Addr) (nt ct nr cr nd cd : Nat) (w : World) (h1 : nt ≤ 9223372036854775807) (h2 : nr ≤ 9223372036854775807) (h3 : nd ≤ 9223372036854775807) :
    Calls Tryz.prog 12 #[mp W H (.slice At nt ct) (.slice Ar nr cr) (.slice Ad nd cd), .int .i64 1048576] w fun e w' => e = .returned (.int .i64 (szTot nt nr nd)) ∧ Kp w w' := by
  have fin : ∀ x : Int, szTot nt nr nd = x → Ending.returned (.int .i64 x) = .returned (.int .i64 (szTot nt nr nd)) := fun x h => by rw [h]
  have HF := Lib.hid fin
  clear fin
  by_cases a1 : nt ≤ 1048576
  · by_cases a2 : nt + nr ≤ 1048576
    · by_cases a3 : nt + nr + nd ≤ 1048576
      · go_enter Tryz.func12, Tryz.ntmps12
        go_wp2_with fail
        refine (szIntS_yes _ _ _ _ _ (by omega) (by omega) (by omega)).mono ?_
        rintro e1 w1 ⟨rfl, rfl⟩
        go_wp2_with fail
        refine (szIntS_yes _ _ _ _ _ (by omega) (by omega) (by omega)).mono ?_
        rintro e1 w1 ⟨rfl, rfl⟩
        go_wp2_with fail
        refine (szIntS_yes _ _ _ _ _ (by omega) (by omega) (by omega)).mono ?_
        rintro e1 w1 ⟨rfl, rfl⟩
        go_wp2_with fail
        go_ret
        exact ⟨HF.out _ (by unfold szTot; rw [if_pos a3]; omega), (Kp.refl _).alloc _⟩
      · go_enter Tryz.func12, Tryz.ntmps12
        go_wp2_with fail
        refine (szIntS_yes _ _ _ _ _ (by omega) (by omega) (by omega)).mono ?_
        rintro e1 w1 ⟨rfl, rfl⟩
        go_wp2_with fail
        refine (szIntS_yes _ _ _ _ _ (by omega) (by omega) (by omega)).mono ?_
        rintro e1 w1 ⟨rfl, rfl⟩
        go_wp2_with fail
        refine (szIntS_no _ _ _ _ _ (by omega) (by omega) (by omega) (by omega)).mono ?_
        rintro e1 w1 ⟨rfl, rfl⟩
        go_wp2_with fail
        go_ret
        exact ⟨HF.out _ (by unfold szTot; rw [if_neg a3]), (Kp.refl _).alloc _⟩
    · go_enter Tryz.func12, Tryz.ntmps12
      go_wp2_with fail
      refine (szIntS_yes _ _ _ _ _ (by omega) (by omega) (by omega)).mono ?_
      rintro e1 w1 ⟨rfl, rfl⟩
      go_wp2_with fail
      refine (szIntS_no _ _ _ _ _ (by omega) (by omega) (by omega) (by omega)).mono ?_
      rintro e1 w1 ⟨rfl, rfl⟩
      go_wp2_with fail
      go_ret
      exact ⟨HF.out _ (by unfold szTot; rw [if_neg (by omega)]), (Kp.refl _).alloc _⟩
  · go_enter Tryz.func12, Tryz.ntmps12
    go_wp2_with fail
    refine (szIntS_no _ _ _ _ _ (by omega) (by omega) (by omega) (by omega)).mono ?_
    rintro e1 w1 ⟨rfl, rfl⟩
    go_wp2_with fail
    go_ret
    exact ⟨HF.out _ (by unfold szTot; rw [if_neg (by omega)]), (Kp.refl _).alloc _⟩

theorem eqMap_same (W H : Int) (ta ra da tb rb db : Value) (lt lr ld : List Int) (w : World) (ha : Lists w ta ra da lt lr ld) (hb : Lists w tb rb db lt lr ld) :
    Calls Tryz.prog 22 #[mp W H ta ra da, mp W H tb rb db] w fun e w' => e = .returned (.bool true) ∧ Kp w w' := by
  have hne : ∀ n : Int, (n != n) = false := fun n => by simp
  have HA := Lib.hid (ha.keep (((Kp.refl w).alloc (.cells #[.int .i64 W, .int .i64 H, ta, ra, da] 36)).alloc (.cells #[.int .i64 W, .int .i64 H, tb, rb, db] 36)))
  have HB := Lib.hid (hb.keep (((Kp.refl w).alloc (.cells #[.int .i64 W, .int .i64 H, ta, ra, da] 36)).alloc (.cells #[.int .i64 W, .int .i64 H, tb, rb, db] 36)))
  clear ha hb
  go_enter Tryz.func22, Tryz.ntmps22
  go_wp2_with fail
  refine (eqIntS_same _ _ lt _ HA.out.rt HB.out.rt HA.out.bt).mono ?_
  rintro e1 w1 ⟨rfl, k1⟩
  have p3 : w1.cell? ⟨w.heap.size, 3, none⟩ = some ra := k1.cell (by simp [go_sem])
  have p4 : w1.cell? ⟨w.heap.size, 4, none⟩ = some da := k1.cell (by simp [go_sem])
  have q3 : w1.cell? ⟨w.heap.size + 1, 3, none⟩ = some rb := k1.cell (by simp [go_sem])
  have q4 : w1.cell? ⟨w.heap.size + 1, 4, none⟩ = some db := k1.cell (by simp [go_sem])
  have K1 : Kp w w1 := (((Kp.refl w).alloc _).alloc _).trans k1
  have HA1 := Lib.hid (HA.out.keep k1)
  have HB1 := Lib.hid (HB.out.keep k1)
  clear HA HB k1
  go_wp2_with fail
  refine (eqIntS_same _ _ lr _ HA1.out.rr HB1.out.rr HA1.out.br).mono ?_
  rintro e2 w2 ⟨rfl, k2⟩
  have r4 := k2.cell p4
  have s4 := k2.cell q4
  clear p3 p4 q3 q4
  go_wp2_with fail
  refine (eqIntS_same _ _ ld _ (HA1.out.keep k2).rd (HB1.out.keep k2).rd HA1.out.bd).mono ?_
  rintro e3 w3 ⟨rfl, k3⟩
  go_wp2_with fail
  go_ret
  exact ⟨rfl, (K1.trans k2).trans k3⟩

end Go.Proofs.YtmolpkjdjkhnpaaGreatDoor

/-
  The laws' copy of a map: the same numbers and lists, in memory of its own. Nothing that was there is changed.
-/
namespace Go.Proofs.YtmolpkjdjkhnpaaGreatDoor
open Go.RowKit

def ToMapPost (W H : Int) (lt lr ld : List Int) (w : World) (e : Ending) (w' : World) : Prop :=
  ∃ t r d, e = .returned (mp W H t r d) ∧ Own3 w' w.heap.size t r d lt lr ld ∧ Kp w w'

theorem toIntS_sl (v : Value) (l : List Int) (w : World) (h : RdI w v l) (hl : l.length ≤ 1048576) :
    Calls Tryz.prog 39 #[v] w fun e w' => ∃ A c, e = .returned (.slice A l.length c) ∧ OwnI w' w.heap.size (.slice A l.length c) l ∧ Kp w w' :=
  (toIntS_any v l w h hl).mono fun e w' ⟨v', he, ho, hk⟩ => by
    obtain ⟨A, c, rfl⟩ := ho.slice
    exact ⟨A, c, he, ho, hk⟩

set_option maxHeartbeats 2000000 in
theorem toMap_any (W H : Int) (t r d : Value) (lt lr ld : List Int) (w : World) (hL : Lists w t r d lt lr ld) :
    Calls Tryz.prog 17 #[mp W H t r d] w (ToMapPost W H lt lr ld w) := by
  have HL := Lib.hid hL
  obtain ⟨At, ct, rfl, _⟩ := hL.rt
  obtain ⟨Ar, cr, rfl, _⟩ := hL.rr
  obtain ⟨Ad, cd, rfl, _⟩ := hL.rd
  have C := Lib.hid toIntS_sl
  obtain ⟨nt, hnt⟩ : ∃ n, lt.length = n := ⟨_, rfl⟩
  obtain ⟨nr, hnr⟩ : ∃ n, lr.length = n := ⟨_, rfl⟩
  obtain ⟨nd, hnd⟩ : ∃ n, ld.length = n := ⟨_, rfl⟩
  have HNt := Lib.hid hnt
  have HNr := Lib.hid hnr
  have HNd := Lib.hid hnd
  rw [hnt, hnr, hnd]
  have CT : Hid (∀ w, RdI w (.slice At nt ct) lt → Calls Tryz.prog 39 #[.slice At nt ct] w fun e w' => ∃ A c, e = .returned (.slice A nt c) ∧ OwnI w' w.heap.size (.slice A nt c) lt ∧ Kp w w') := Lib.hid fun w h => by
    have := toIntS_sl _ lt w h hL.bt
    rw [hnt] at this
    exact this
  have CR : Hid (∀ w, RdI w (.slice Ar nr cr) lr → Calls Tryz.prog 39 #[.slice Ar nr cr] w fun e w' => ∃ A c, e = .returned (.slice A nr c) ∧ OwnI w' w.heap.size (.slice A nr c) lr ∧ Kp w w') := Lib.hid fun w h => by
    have := toIntS_sl _ lr w h hL.br
    rw [hnr] at this
    exact this
  have CD : Hid (∀ w, RdI w (.slice Ad nd cd) ld → Calls Tryz.prog 39 #[.slice Ad nd cd] w fun e w' => ∃ A c, e = .returned (.slice A nd c) ∧ OwnI w' w.heap.size (.slice A nd c) ld ∧ Kp w w') := Lib.hid fun w h => by
    have := toIntS_sl _ ld w h hL.bd
    rw [hnd] at this
    exact this
  rw [hnt, hnr, hnd] at HL
  clear hL hnt hnr hnd C
  go_enter Tryz.func17, Tryz.ntmps17
  go_wp2_with fail
  have k0 : Kp w (((w.alloc (.cells #[.int .i64 W, .int .i64 H, .slice At nt ct, .slice Ar nr cr, .slice Ad nd cd] 28)).alloc (.cells #[.int .i64 0, .int .i64 0, .slice none 0 0, .slice none 0 0, .slice none 0 0] 36)).alloc (.cells #[.int .i64 W, .int .i64 H, .slice none 0 0, .slice none 0 0, .slice none 0 0] 36)) := (((Kp.refl w).alloc _).alloc _).alloc _
  refine (CT.out _ (HL.out.keep k0).rt).mono ?_
  rintro e1 w1 ⟨A1, c1, rfl, o1, k1⟩
  have a3 : w1.cell? ⟨w.heap.size, 3, none⟩ = some (.slice Ar nr cr) := k1.cell (by simp [go_sem])
  have a4 : w1.cell? ⟨w.heap.size, 4, none⟩ = some (.slice Ad nd cd) := k1.cell (by simp [go_sem])
  have L1 : Live5 w1 (w.heap.size + 1) (.int .i64 0) (.int .i64 0) (.slice none 0 0) (.slice none 0 0) (.slice none 0 0) := live5_keep k1 ⟨by simp [go_sem], by simp [go_sem], by simp [go_sem], by simp [go_sem], by simp [go_sem]⟩
  have M1 : Live5 w1 (w.heap.size + 1 + 1) (.int .i64 W) (.int .i64 H) (.slice none 0 0) (.slice none 0 0) (.slice none 0 0) := live5_keep k1 ⟨by simp [go_sem], by simp [go_sem], by simp [go_sem], by simp [go_sem], by simp [go_sem]⟩
  have K1 : Kp w w1 := k0.trans k1
  have z1 : w.heap.size + 3 ≤ w1.heap.size := by have := k1.size; simp at this; omega
  have O1 := Lib.hid (o1.base (b := w.heap.size + 3) (by simp <;> omega))
  clear k0 k1 o1
  go_wp2_with fail
  have K1' : Kp w (w1.setCell ⟨w.heap.size + 1 + 1, 2, none⟩ (.slice A1 nt c1)) := K1.setCell (by simp <;> omega) _
  refine (CR.out _ (HL.out.keep K1').rr).mono ?_
  rintro e2 w2 ⟨A2, c2, rfl, o2, k2⟩
  have b4 : w2.cell? ⟨w.heap.size, 4, none⟩ = some (.slice Ad nd cd) := k2.cell (by simp [go_sem, *])
  have L2 : Live5 w2 (w.heap.size + 1) (.int .i64 0) (.int .i64 0) (.slice none 0 0) (.slice none 0 0) (.slice none 0 0) := live5_keep k2 ⟨by simp [go_sem, *], by simp [go_sem, *], by simp [go_sem, *], by simp [go_sem, *], by simp [go_sem, *]⟩
  have M2 : Live5 w2 (w.heap.size + 1 + 1) (.int .i64 W) (.int .i64 H) (.slice A1 nt c1) (.slice none 0 0) (.slice none 0 0) := live5_keep k2 ⟨by simp [go_sem, *], by simp [go_sem, *], by simp [go_sem, *], by simp [go_sem, *], by simp [go_sem, *]⟩
  have K2 : Kp w w2 := K1'.trans k2
  have z2 : w.heap.size + 3 ≤ w2.heap.size := by have := k2.size; simp at this; omega
  have O1b := Lib.hid ((O1.out.far (O1.out.not (g := w.heap.size + 1 + 1) (by omega)) (.slice A1 nt c1) (j := 2)).keep k2)
  have D12 : Hid (∀ g, (Value.slice A1 nt c1).ownBlock = some g → (Value.slice A2 nr c2).ownBlock ≠ some g) := Lib.hid fun g hg hg' => by
    have h1 := (World.ownsRow.lt O1.out g hg).2
    have h2 := (World.ownsRow.lt o2 g hg').1
    simp at h2
    omega
  have O2 := Lib.hid (o2.base (b := w.heap.size + 3) (by simp <;> omega))
  clear K1' k2 o2 a3 a4 L1 M1 K1 O1
  go_wp2_with fail
  have K2' : Kp w (w2.setCell ⟨w.heap.size + 1 + 1, 3, none⟩ (.slice A2 nr c2)) := K2.setCell (by simp <;> omega) _
  refine (CD.out _ (HL.out.keep K2').rd).mono ?_
  rintro e3 w3 ⟨A3, c3, rfl, o3, k3⟩
  have L3 : Live5 w3 (w.heap.size + 1) (.int .i64 0) (.int .i64 0) (.slice none 0 0) (.slice none 0 0) (.slice none 0 0) := live5_keep k3 ⟨by simp [go_sem, *], by simp [go_sem, *], by simp [go_sem, *], by simp [go_sem, *], by simp [go_sem, *]⟩
  have M3 : Live5 w3 (w.heap.size + 1 + 1) (.int .i64 W) (.int .i64 H) (.slice A1 nt c1) (.slice A2 nr c2) (.slice none 0 0) := live5_keep k3 ⟨by simp [go_sem, *], by simp [go_sem, *], by simp [go_sem, *], by simp [go_sem, *], by simp [go_sem, *]⟩
  have K3 : Kp w w3 := K2'.trans k3
  have O1c := Lib.hid ((O1b.out.far (O1b.out.not (g := w.heap.size + 1 + 1) (by omega)) (.slice A2 nr c2) (j := 3)).keep k3)
  have O2b := Lib.hid ((O2.out.far (O2.out.not (g := w.heap.size + 1 + 1) (by omega)) (.slice A2 nr c2) (j := 3)).keep k3)
  have D13 : Hid (∀ g, (Value.slice A1 nt c1).ownBlock = some g → (Value.slice A3 nd c3).ownBlock ≠ some g) := Lib.hid fun g hg hg' => by
    have h1 := (World.ownsRow.lt O1b.out g hg).2
    have h2 := (World.ownsRow.lt o3 g hg').1
    simp at h2
    omega
  have D23 : Hid (∀ g, (Value.slice A2 nr c2).ownBlock = some g → (Value.slice A3 nd c3).ownBlock ≠ some g) := Lib.hid fun g hg hg' => by
    have h1 := (World.ownsRow.lt O2.out g hg).2
    have h2 := (World.ownsRow.lt o3 g hg').1
    simp at h2
    omega
  have O3 := Lib.hid (o3.base (b := w.heap.size + 3) (by simp <;> omega))
  clear K2' k3 o3 b4 L2 M2 K2 O1b O2
  go_wp2_with fail
  have n1 : ∀ g, g < w.heap.size + 3 → (Value.slice A1 nt c1).ownBlock ≠ some g := fun g hg => O1c.out.not (by omega)
  have n2 : ∀ g, g < w.heap.size + 3 → (Value.slice A2 nr c2).ownBlock ≠ some g := fun g hg => O2b.out.not (by omega)
  have n3 : ∀ g, g < w.heap.size + 3 → (Value.slice A3 nd c3).ownBlock ≠ some g := fun g hg => O3.out.not (by omega)
  refine bodyPost_ret (v := mp W H (.slice A1 nt c1) (.slice A2 nr c2) (.slice A3 nd c3)) (by simp [results, Tryz.results17, go_sem, *]) rfl ⟨_, _, _, rfl, ⟨?_, ?_, ?_, D12.out, D13.out, D23.out⟩, ?_⟩
  · exact ((((((O1c.out.far (n1 _ (by omega)) _).far (n1 _ (by omega)) _).far (n1 _ (by omega)) _).far (n1 _ (by omega)) _).far (n1 _ (by omega)) _).far (n1 _ (by omega)) _).base (by omega)
  · exact ((((((O2b.out.far (n2 _ (by omega)) _).far (n2 _ (by omega)) _).far (n2 _ (by omega)) _).far (n2 _ (by omega)) _).far (n2 _ (by omega)) _).far (n2 _ (by omega)) _).base (by omega)
  · exact ((((((O3.out.far (n3 _ (by omega)) _).far (n3 _ (by omega)) _).far (n3 _ (by omega)) _).far (n3 _ (by omega)) _).far (n3 _ (by omega)) _).far (n3 _ (by omega)) _).base (by omega)
  · exact (((((K3.setCell (by simp <;> omega) _).setCell (by simp <;> omega) _).setCell (by simp <;> omega) _).setCell (by simp <;> omega) _).setCell (by simp <;> omega) _).setCell (by simp <;> omega) _

end Go.Proofs.YtmolpkjdjkhnpaaGreatDoor
