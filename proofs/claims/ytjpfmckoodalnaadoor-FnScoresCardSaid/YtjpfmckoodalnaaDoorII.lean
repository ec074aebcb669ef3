/-
  Lists of lists of integers: the laws' size, copy (in memory of its own), comparison of two that read as the same, and marking of a copy.
-/
import Derived.Test.YtjpfmckoodalnaaDoorMarkN
import Derived.Test.YtjpfmckoodalnaaDoorListI
import Derived.Test.YtjpfmckoodalnaaDoorRowC
import Derived.Test.YtjpfmckoodalnaaDoorSzP
import Derived.Test.YtjpfmckoodalnaaDoorMk
namespace Go.Proofs.YtjpfmckoodalnaaDoor
open Go.RowKit

/-- The slice v owns the list L of lists of integers; vs: the inner slices. -/
structure OwnII (w : World) (base : Nat) (v : Value) (L : List (List Int)) (vs : List Value) : Prop where
  row : w.ownsRow base 41 1 v L.length vs
  inn : ∀ (i : Nat) (x : Value) (l : List Int), vs[i]? = some x → L[i]? = some l → OwnI w base x l
  out : ∀ (i : Nat) (x : Value) (g : Nat), vs[i]? = some x → x.ownBlock = some g → v.ownBlock ≠ some g
  two : ∀ (i j : Nat) (x y : Value) (g : Nat), i ≠ j → vs[i]? = some x → vs[j]? = some y → x.ownBlock = some g → y.ownBlock ≠ some g
theorem OwnII.len {w : World} {base : Nat} {v : Value} {L : List (List Int)} {vs : List Value} (h : OwnII w base v L vs) : vs.length = L.length := by
  have : vs.length = L.length * 1 := h.row.1
  omega
theorem OwnII.keep {w w' : World} {base : Nat} {v : Value} {L : List (List Int)} {vs : List Value} (h : OwnII w base v L vs) (k : Kp w w') : OwnII w' base v L vs :=
  ⟨ownsRow_keep h.row k, fun i x l hx hl => (h.inn i x l hx hl).keep k, h.out, h.two⟩
theorem OwnII.base {w : World} {base b : Nat} {v : Value} {L : List (List Int)} {vs : List Value} (h : OwnII w base v L vs) (hb : b ≤ base) : OwnII w b v L vs :=
  ⟨ownsRow_base h.row hb, fun i x l hx hl => (h.inn i x l hx hl).base hb, h.out, h.two⟩
theorem OwnII.nil (w : World) (base : Nat) : OwnII w base (.slice none 0 0) [] [] :=
  ⟨World.ownsRow_nil w base _ 1, fun i x l hx _ => by simp at hx, fun i x g hx _ => by simp at hx, fun i j x y g _ hx => by simp at hx⟩

theorem OwnII.snoc {w0 w w' : World} {base : Nat} {v v' x : Value} {L : List (List Int)} {vs : List Value} {l : List Int} {T : TypeId} (h : OwnII w0 base v L vs) (k : Kp w0 w) (hx : OwnI w w0.heap.size x l) (hb : base ≤ w0.heap.size)
    (ho : w'.ownsRow base 41 1 v' (L.length + 1) (vs ++ [x])) (hg : (w.alloc (.cells #[x] T)).grownBy w' v.ownBlock) (ha : v'.ownBlock = v.ownBlock ∨ v'.ownBlock = some (w.alloc (.cells #[x] T)).heap.size) :
    OwnII w' base v' (L ++ [l]) (vs ++ [x]) := by
  have hlen := h.len
  have ka : Kp w (w.alloc (.cells #[x] T)) := (Kp.refl w).alloc _
  have hsz : (w.alloc (.cells #[x] T)).heap.size = w.heap.size + 1 := by simp
  have kz := k.size
  have vlt : ∀ g, v.ownBlock = some g → g < w0.heap.size := fun g e => (World.ownsRow.lt h.row g e).2
  have xge : ∀ g, x.ownBlock = some g → w0.heap.size ≤ g ∧ g < w.heap.size := fun g e => World.ownsRow.lt hx g e
  have ilt : ∀ (i : Nat) (y : Value) (g : Nat), vs[i]? = some y → y.ownBlock = some g → g < w0.heap.size := fun i y g hy e => by
    have hi : i < L.length := by rw [← hlen]; exact (List.getElem?_eq_some_iff.1 hy).1
    exact (World.ownsRow.lt (h.inn i y _ hy (List.getElem?_eq_getElem hi)) g e).2
  refine ⟨by rw [List.length_append]; exact ho, fun i y m hy hm => ?_, fun i y g hy e => ?_, fun i j y z g hij hy hz e => ?_⟩
  · rcases snoc_cases hy with ⟨hi, hy⟩ | ⟨rfl, rfl⟩
    · rw [List.getElem?_append_left (by omega)] at hm
      have o := ((h.inn i y m hy hm).keep k).keep ka
      refine World.ownsRow.kept o hg ?_
      cases hv : y.ownBlock
      · exact .inl rfl
      · rename_i g
        exact .inr fun e => h.out i y g hy hv e.symm
    · rw [List.getElem?_append_right (by omega)] at hm
      simp [hlen] at hm
      subst hm
      refine World.ownsRow.kept ((hx.base hb).keep ka) hg ?_
      cases hv : y.ownBlock
      · exact .inl rfl
      · rename_i g
        refine .inr fun e => ?_
        have h1 := (xge g hv).1
        have h2 := vlt g e.symm
        omega
  · rcases snoc_cases hy with ⟨hi, hy⟩ | ⟨rfl, rfl⟩
    · have h1 := ilt i y g hy e
      rcases ha with ha | ha
      · rw [ha]
        exact h.out i y g hy e
      · rw [ha]
        intro e2
        have := Option.some.inj e2
        omega
    · have h1 := xge g e
      rcases ha with ha | ha
      · rw [ha]
        intro e2
        have := vlt g e2
        omega
      · rw [ha]
        intro e2
        have := Option.some.inj e2
        omega
  · rcases snoc_cases hy with ⟨hi, hy1⟩ | ⟨rfl, rfl⟩
    · rcases snoc_cases hz with ⟨hj, hz1⟩ | ⟨rfl, rfl⟩
      · exact h.two i j y z g hij hy1 hz1 e
      · intro e2
        have h1 := ilt i y g hy1 e
        have h2 := (xge g e2).1
        omega
    · rcases snoc_cases hz with ⟨hj, hz1⟩ | ⟨rfl, rfl⟩
      · intro e2
        have h1 := ilt j z g hz1 e2
        have h2 := (xge g e).1
        omega
      · exact absurd rfl hij

/-- The slice v reads as the list L of lists of integers. -/
def RdII (w : World) (v : Value) (L : List (List Int)) : Prop :=
  ∃ (A : Option Addr) (c : Nat) (vs : List Value), v = .slice A L.length c ∧ vs.length = L.length ∧ (0 < L.length → ∃ g off, A = some ⟨g, off, none⟩ ∧ ∀ (i : Nat) (x : Value), vs[i]? = some x → w.cell? ⟨g, off + i, none⟩ = some x) ∧ ∀ (i : Nat) (x : Value) (l : List Int), vs[i]? = some x → L[i]? = some l → RdI w x l
theorem RdII.keep {w w' : World} {v : Value} {L : List (List Int)} (h : RdII w v L) (hk : Kp w w') : RdII w' v L := by
  obtain ⟨A, c, vs, rfl, hl, h0, h1⟩ := h
  refine ⟨A, c, vs, rfl, hl, fun hp => ?_, fun i x l hx hm => (h1 i x l hx hm).keep hk⟩
  obtain ⟨g, off, rfl, hc⟩ := h0 hp
  exact ⟨g, off, rfl, fun i x hx => hk.cell (hc i x hx)⟩
theorem OwnII.rd {w : World} {base : Nat} {v : Value} {L : List (List Int)} {vs : List Value} (h : OwnII w base v L vs) : RdII w v L := by
  have hlen := h.len
  have hr := h.row
  rcases h.row.2 with ⟨hv, hn⟩ | ⟨g, cap, cur, hv, _⟩
  · exact ⟨none, 0, vs, by rw [hn]; exact hv, hlen, fun h0 => by omega, fun i x l hx hl => (h.inn i x l hx hl).rd⟩
  · refine ⟨_, _, vs, hv, hlen, fun _ => ⟨g, 0, rfl, fun i x hx => ?_⟩, fun i x l hx hl => (h.inn i x l hx hl).rd⟩
    rw [hv] at hr
    have hi : i < vs.length := (List.getElem?_eq_some_iff.1 hx).1
    rw [Nat.zero_add]
    exact (World.ownsRow.cellAt hr i (by omega)).trans hx

theorem lt_at {α : Type} {l : List α} {i : Nat} {t : α} (h : l[i]? = some t) : i < l.length := (List.getElem?_eq_some_iff.1 h).1
theorem liveN1 {w : World} {base g n cap : Nat} {e : TypeId} {ys : List Value} (h : w.ownsRow base e 1 (.slice (some ⟨g, 0, none⟩) n cap) n ys) {j : Nat} (hj : j < n) : (∃ u, w.cell? ⟨g, j, none⟩ = some u) ∧ w.frozen? ⟨g, j, none⟩ = false := by
  have hlen : ys.length = n * 1 := h.1
  exact ⟨⟨_, (h.cellAt j (by omega)).trans (List.getElem?_eq_getElem (by omega))⟩, h.frozenAt j⟩

theorem infoIntS : (Tryd.prog.info? 41).map (fun i => (i.zero, i.size, i.bytes)) = some (some (.slice none 0 0), 1, 24) := by kernel_rfl
theorem mkIntSS (n : Nat) (hn : n ≤ 1048576) (w : World) :
    (Instr.makeSlice 24 (.int .i64 (n : Int)) (.int .i64 (n : Int))).run Tryd.prog w = .ok (.slice (some ⟨w.heap.size, 0, none⟩) n n) (w.alloc (.cells (madeCells #[.slice none 0 0] n) 41)) := by
  obtain ⟨i, hi, hz, hs, hb⟩ := info_parts infoIntS
  have hr := run_make (P := Tryd.prog) w 24 41 i (.slice none 0 0) Tryd.underlying24 hi hz .i64 .i64 (n : Int) (n : Int) (by omega) (Int.le_refl _) (by rw [hb]; omega) (by omega)
  rw [hs, Int.toNat_natCast, Nat.mul_one] at hr
  exact hr

/-- A row of slices in block g, the first k of which own lists, each in a block of its own behind g. -/
structure PreII (w : World) (g n k : Nat) (L : List (List Int)) (ys : List Value) : Prop where
  row : w.ownsRow g 41 1 (.slice (some ⟨g, 0, none⟩) n n) n ys
  inn : ∀ (j : Nat) (x : Value) (l : List Int), j < k → ys[j]? = some x → L[j]? = some l → OwnI w (g + 1) x l
  two : ∀ (i j : Nat) (x y : Value) (b : Nat), i < k → j < k → i ≠ j → ys[i]? = some x → ys[j]? = some y → x.ownBlock = some b → y.ownBlock ≠ some b
theorem PreII.step {w w1 : World} {g n k : Nat} {L : List (List Int)} {ys : List Value} {x : Value} {l : List Int} (h : PreII w g n k L ys) (hk : k < n) (hl : L[k]? = some l) (hL : L.length = n) (k1 : Kp w w1) (hg : g < w.heap.size) (hx : OwnI w1 w.heap.size x l) :
    PreII (w1.setCell ⟨g, k, none⟩ x) g n (k + 1) L (ys.set k x) := by
  have hlen : ys.length = n * 1 := h.row.1
  have row1 := ownsRow_keep h.row k1
  have far : ∀ {v l'}, OwnI w1 (g + 1) v l' → OwnI (w1.setCell ⟨g, k, none⟩ x) (g + 1) v l' := fun {v l'} o => o.far (o.not (g := g) (by omega)) x
  have old : ∀ (j : Nat) (y : Value), j < k → ys[j]? = some y → ∀ b, y.ownBlock = some b → b < w.heap.size := fun j y hj hy b hb => by
    have hjl : L[j]? = some (L[j]'(by omega)) := List.getElem?_eq_getElem _
    exact (World.ownsRow.lt (h.inn j y _ hj hy hjl) b hb).2
  have new : ∀ b, x.ownBlock = some b → w.heap.size ≤ b := fun b hb => (World.ownsRow.lt hx b hb).1
  have at' : ∀ (j : Nat) (y : Value), j < k + 1 → (ys.set k x)[j]? = some y → (j < k ∧ ys[j]? = some y) ∨ (j = k ∧ y = x) := fun j y hj hy => by
    by_cases e : k = j
    · subst e
      rw [List.getElem?_set_self (by omega)] at hy
      exact .inr ⟨rfl, (Option.some.inj hy).symm⟩
    · rw [List.getElem?_set_ne e] at hy
      exact .inl ⟨by omega, hy⟩
  refine ⟨(row1.stored k x).1, fun j y m hj hy hm => ?_, fun i j y z b hi hj hij hy hz hb => ?_⟩
  · rcases at' j y hj hy with ⟨hj', hy'⟩ | ⟨rfl, rfl⟩
    · exact far ((h.inn j y m hj' hy' hm).keep k1)
    · rw [hl] at hm
      obtain rfl := Option.some.inj hm
      exact far (hx.base (by omega))
  · rcases at' i y hi hy with ⟨hi', hy'⟩ | ⟨rfl, rfl⟩
    · rcases at' j z hj hz with ⟨hj', hz'⟩ | ⟨rfl, rfl⟩
      · exact h.two i j y z b hi' hj' hij hy' hz' hb
      · intro e
        have := old i y hi' hy' b hb
        have := new b e
        omega
    · rcases at' j z hj hz with ⟨hj', hz'⟩ | ⟨rfl, rfl⟩
      · intro e
        have := old j z hj' hz' b e
        have := new b hb
        omega
      · exact absurd rfl hij

/-- What the marking of lists of lists needs of those from the q-th on. -/
def RestII (w : World) (base q : Nat) (L : List (List Int)) (vs : List Value) : Prop := ∀ (j : Nat) (x : Value) (l : List Int), q ≤ j → vs[j]? = some x → L[j]? = some l → OwnI w base x l

end Go.Proofs.YtjpfmckoodalnaaDoor
