/-
  Hexes drawn by the reference's cursor: their coordinates are within 41; nothing that was there is changed but the cursor.
-/
import Derived.Test.YtmodcmkmfedgoaaDoorCur
namespace Go.Proofs.YtmodcmkmfedgoaaDoor
open Go.RowKit

theorem CurAt.keep {w w' : World} {g : Nat} {A : Option Addr} {n c p : Nat} (h : CurAt w g A n c p) (k : Kp w w') : CurAt w' g A n c p := by
  obtain ⟨s, sb, c0, l1, l2⟩ := h
  exact ⟨s, sb, k.cell c0, k.liv l1, k.liv l2⟩
theorem CurAt.lt {w : World} {g : Nat} {A : Option Addr} {n c p : Nat} (h : CurAt w g A n c p) : g < w.heap.size := by
  obtain ⟨s, sb, c0, l1, l2⟩ := h
  exact cell_lt c0
theorem grown_alloc {w w' : World} {row : Option Nat} (h : w.grownBy w' row) (o : Obj) : w.grownBy (w'.alloc o) row :=
  ⟨h.os, h.tape, h.output, Nat.le_trans h.size (by simp), fun i hi hne => (Below.heap_alloc w' o i (Nat.lt_of_lt_of_le hi h.size)).trans (h.block i hi hne)⟩
theorem grown_new {w w' : World} {row : Option Nat} (h : w.grownBy w' row) {p : Addr} (hp : w.heap.size ≤ p.block) (u : Value) : w.grownBy (w'.setCell p u) row :=
  ⟨h.os, h.tape, h.output, by simpa [World.setCell] using h.size, fun i hi hne => (Below.heap_setCell w' p u i (by intro e; omega)).trans (h.block i hi hne)⟩
theorem grown_keep {w w' w'' : World} {row : Option Nat} (h : w.grownBy w' row) (k : Kp w' w'') : w.grownBy w'' row :=
  ⟨k.os.trans h.os, k.tape.trans h.tape, k.output.trans h.output, Nat.le_trans h.size k.size, fun i hi hne => (k.block i (Nat.lt_of_lt_of_le hi h.size)).trans (h.block i hi hne)⟩
theorem CurAt.far {w : World} {g b j : Nat} {A : Option Addr} {n c p : Nat} (h : CurAt w g A n c p) (hne : g ≠ b) (u : Value) : CurAt (w.setCell ⟨b, j, none⟩ u) g A n c p := by
  obtain ⟨s, sb, c0, l1, l2⟩ := h
  have hg := grown_set w b j u
  have ne : some g ≠ some b := fun e => hne (Option.some.inj e)
  exact ⟨s, sb, hg.cell c0 ne, ⟨hg.cell l1.1 ne, grown_frozen hg l1.1 ne l1.2⟩, ⟨hg.cell l2.1 ne, grown_frozen hg l2.1 ne l2.2⟩⟩
/-- Two cells of a box that can be written. -/
abbrev Live2 (w : World) (b : Nat) (u0 u1 : Value) : Prop := (w.cell? ⟨b, 0, none⟩ = some u0 ∧ w.frozen? ⟨b, 0, none⟩ = false) ∧ (w.cell? ⟨b, 1, none⟩ = some u1 ∧ w.frozen? ⟨b, 1, none⟩ = false)
theorem live2_grown {w w' : World} {g b : Nat} {u0 u1 : Value} (hg : w.grownBy w' (some g)) (hne : b ≠ g) (h : Live2 w b u0 u1) : Live2 w' b u0 u1 :=
  have ne : some b ≠ some g := fun e => hne (Option.some.inj e)
  ⟨⟨hg.cell h.1.1 ne, grown_frozen hg h.1.1 ne h.1.2⟩, ⟨hg.cell h.2.1 ne, grown_frozen hg h.2.1 ne h.2.2⟩⟩
theorem live2_kp {w w' : World} {b : Nat} {u0 u1 : Value} (k : Kp w w') (h : Live2 w b u0 u1) : Live2 w' b u0 u1 := ⟨k.liv h.1, k.liv h.2⟩

/-- A hex drawn. -/
def HexPost (g : Nat) (A : Option Addr) (n c p k : Nat) (w : World) (e : Ending) (w' : World) : Prop :=
  ∃ q r : Int, e = .returned (hx q r) ∧ (-41 ≤ q ∧ q ≤ 41 ∧ -41 ≤ r ∧ r ≤ 41) ∧ (∃ p', p' ≤ p + k ∧ CurAt w' g A n c p') ∧ w.grownBy w' (some g)

theorem three_at (w : World) (x y z lo hi : Int) (T : TypeId) (hx : lo ≤ x ∧ x ≤ hi) (hy : lo ≤ y ∧ y ≤ hi) (hz : lo ≤ z ∧ z ≤ hi) :
    ∀ i : Nat, i < 3 → ∃ u : Int, lo ≤ u ∧ u ≤ hi ∧ (w.alloc (.cells #[.int .i64 x, .int .i64 y, .int .i64 z] T)).cell? ⟨w.heap.size, 0 + i, none⟩ = some (.int .i64 u)
  | 0, _ => ⟨x, hx.1, hx.2, by simp [go_sem]⟩
  | 1, _ => ⟨y, hy.1, hy.2, by simp [go_sem]⟩
  | 2, _ => ⟨z, hz.1, hz.2, by simp [go_sem]⟩
theorem two_at (w : World) (x y lo hi : Int) (T : TypeId) (hx : lo ≤ x ∧ x ≤ hi) (hy : lo ≤ y ∧ y ≤ hi) :
    ∀ i : Nat, i < 2 → ∃ u : Int, lo ≤ u ∧ u ≤ hi ∧ (w.alloc (.cells #[.int .i64 x, .int .i64 y] T)).cell? ⟨w.heap.size, 0 + i, none⟩ = some (.int .i64 u)
  | 0, _ => ⟨x, hx.1, hx.2, by simp [go_sem]⟩
  | 1, _ => ⟨y, hy.1, hy.2, by simp [go_sem]⟩

set_option maxRecDepth 100000 in
set_option maxHeartbeats 4000000 in
theorem hex_any (g : Nat) (A : Option Addr) (n c p : Nat) (w : World) (h : CurAt w g A n c p) (hb : RdBy w A n) (hp : p ≤ 90000) (hn : n ≤ 9223372036854775807) (hne : 0 < n → ∀ a, A = some a → a.block ≠ g) :
    Calls Tryd.prog 36 #[.pointer (some ⟨g, 0, none⟩)] w (HexPost g A n c p 4 w) := by
  have glt := h.lt
  have k0 := (Kp.refl w).alloc (.cells #[.int .i64 0, .int .i64 0] 25)
  have CP : Hid (∀ (p : Nat) (m : Int) (w : World), CurAt w g A n c p → RdBy w A n → p ≤ 99990 → 2 ≤ m → m ≤ 200 → Calls Tryd.prog 19 #[.pointer (some ⟨g, 0, none⟩), .int .i64 m] w fun e w' => ∃ x : Int, e = .returned (.int .i64 x) ∧ 0 ≤ x ∧ x ≤ m - 1 ∧ (∃ p', p' ≤ p + 1 ∧ CurAt w' g A n c p') ∧ w.grownBy w' (some g)) :=
    Lib.hid fun p m w h hb hp m1 m2 => pick_any g A n c p m w h hb hp hn m1 m2
  have H0 := Lib.hid (And.intro (h.keep k0) (hb.keep k0))
  have HNE := Lib.hid hne
  have G0 := Lib.hid (grown_alloc (World.grownBy.refl w (some g)) (.cells #[.int .i64 0, .int .i64 0] 25))
  clear h hb hne k0
  go_enter Tryd.func36, Tryd.ntmps36
  go_wp2_with fail
  have l0 : Live2 (w.alloc (.cells #[.int .i64 0, .int .i64 0] 25)) w.heap.size (.int .i64 0) (.int .i64 0) := ⟨by simp [go_sem], by simp [go_sem]⟩
  have hb2 : w.heap.size < (w.alloc (.cells #[.int .i64 0, .int .i64 0] 25)).heap.size := by simp
  refine (CP.out p _ _ H0.out.1 H0.out.2 (by omega) (by omega) (by omega)).mono ?_
  rintro e1 w1 ⟨x, rfl, x0, x1, ⟨p1, hp1, cu1⟩, g1⟩
  have l1 := live2_grown g1 (by omega) l0
  have H1 := Lib.hid (And.intro cu1 (H0.out.2.grown g1 HNE.out))
  have G1 := Lib.hid (G0.out.trans g1)
  have z1 : w.heap.size < w1.heap.size := Nat.lt_of_lt_of_le hb2 g1.size
  clear cu1 g1 H0 G0 l0 hb2
  go_wp2_with fail
  refine (CP.out p1 _ _ H1.out.1 H1.out.2 (by omega) (by omega) (by omega)).mono ?_
  rintro e2 w2 ⟨y, rfl, y0, y1, ⟨p2, hp2, cu2⟩, g2⟩
  have kb := (Kp.refl w2).alloc (.cells #[.int .i64 (x - 6), .int .i64 (y - 6)] 25)
  have l2 := live2_kp kb (live2_grown g2 (by omega) l1)
  have m2 : Live2 (w2.alloc (.cells #[.int .i64 (x - 6), .int .i64 (y - 6)] 25)) w2.heap.size (.int .i64 (x - 6)) (.int .i64 (y - 6)) := ⟨by simp [go_sem], by simp [go_sem]⟩
  have H2 := Lib.hid (And.intro (cu2.keep kb) ((H1.out.2.grown g2 HNE.out).keep kb))
  have G2 := Lib.hid (grown_keep (G1.out.trans g2) kb)
  have z2 : w.heap.size < w2.heap.size := Nat.lt_of_lt_of_le z1 g2.size
  have z2b : w2.heap.size < (w2.alloc (.cells #[.int .i64 (x - 6), .int .i64 (y - 6)] 25)).heap.size := by simp
  clear cu2 g2 H1 G1 l1 z1 kb
  go_wp2_with fail
  generalize w2.heap.size = b3 at *
  generalize w2.alloc (.cells #[.int .i64 (x - 6), .int .i64 (y - 6)] 25) = W2 at *
  refine (CP.out p2 _ _ H2.out.1 H2.out.2 (by omega) (by omega) (by omega)).mono ?_
  rintro e3 w3 ⟨z, rfl, zz0, zz1, ⟨p3, hp3, cu3⟩, g3⟩
  have l3 := live2_grown g3 (by omega) l2
  have m3 := live2_grown g3 (by omega) m2
  have H3 := Lib.hid (And.intro cu3 (H2.out.2.grown g3 HNE.out))
  have G3 := Lib.hid (G2.out.trans g3)
  have z3 : b3 < w3.heap.size := Nat.lt_of_lt_of_le z2b g3.size
  clear cu3 g3 H2 G2 l2 m2 z2b CP
  by_cases hz0 : z = 0
  · subst hz0
    have CA := Lib.hid (fun (w : World) h hb hl hne => among_any g A n c p3 w3.heap.size 0 3 3 (-40) 40 w h hb (by omega) hn (by omega) (by omega) hl hne)
    unfold DrawPost at CA
    have ka := (Kp.refl w3).alloc (.cells #[.int .i64 40, .int .i64 (-40), .int .i64 38] 3)
    go_wp2_with fail
    refine (CA.out _ (H3.out.1.keep ka) (H3.out.2.keep ka) (three_at w3 40 (-40) 38 (-40) 40 _ (by omega) (by omega) (by omega)) (by omega)).mono ?_
    rintro e4 w4 ⟨v, rfl, v0, v1, ⟨p4, hp4, cu4⟩, g4⟩
    have l4 := live2_grown g4 (by omega) (live2_kp ka l3)
    have m4 := live2_grown g4 (by omega) (live2_kp ka m3)
    have G4 := Lib.hid ((grown_keep G3.out ka).trans g4)
    have CU := Lib.hid cu4
    clear l3 m3 G3 H3 g4 cu4 ka
    go_wp2_with fail
    exact bodyPost_ret (v := hx v (y - 6)) (by simp [results, Tryd.results36, go_sem, *]) rfl ⟨_, _, rfl, by omega, ⟨p4, by omega, ((CU.out.far (by omega) _).far (by omega) _).far (by omega) _⟩, grown_new (grown_new (grown_new G4.out (by simp <;> omega) _) (by simp <;> omega) _) (by simp <;> omega) _⟩
  · have hz0e : (z == 0) = false := by simpa using hz0
    by_cases hz1 : z = 1
    · subst hz1
      have CA := Lib.hid (fun (w : World) h hb hl hne => among_any g A n c p3 w3.heap.size 0 3 3 (-40) 40 w h hb (by omega) hn (by omega) (by omega) hl hne)
      unfold DrawPost at CA
      have ka := (Kp.refl w3).alloc (.cells #[.int .i64 40, .int .i64 (-40), .int .i64 39] 3)
      clear hz0 hz0e
      go_wp2_with fail
      refine (CA.out _ (H3.out.1.keep ka) (H3.out.2.keep ka) (three_at w3 40 (-40) 39 (-40) 40 _ (by omega) (by omega) (by omega)) (by omega)).mono ?_
      rintro e4 w4 ⟨v, rfl, v0, v1, ⟨p4, hp4, cu4⟩, g4⟩
      have l4 := live2_grown g4 (by omega) (live2_kp ka l3)
      have m4 := live2_grown g4 (by omega) (live2_kp ka m3)
      have G4 := Lib.hid ((grown_keep G3.out ka).trans g4)
      have CU := Lib.hid cu4
      clear l3 m3 G3 H3 g4 cu4 ka
      go_wp2_with fail
      exact bodyPost_ret (v := hx (x - 6) v) (by simp [results, Tryd.results36, go_sem, *]) rfl ⟨_, _, rfl, by omega, ⟨p4, by omega, ((CU.out.far (by omega) _).far (by omega) _).far (by omega) _⟩, grown_new (grown_new (grown_new G4.out (by simp <;> omega) _) (by simp <;> omega) _) (by simp <;> omega) _⟩
    · have hz1e : (z == 1) = false := by simpa using hz1
      clear hz0 hz1
      go_wp2_with fail
      exact bodyPost_ret (v := hx (x - 6) (y - 6)) (by simp [results, Tryd.results36, go_sem, *]) rfl ⟨_, _, rfl, by omega, ⟨p3, by omega, (H3.out.1.far (by omega) _).far (by omega) _⟩, grown_new (grown_new G3.out (by simp <;> omega) _) (by simp <;> omega) _⟩

set_option maxRecDepth 100000 in
set_option maxHeartbeats 4000000 in
theorem anyHex_any (g : Nat) (A : Option Addr) (n c p : Nat) (w : World) (h : CurAt w g A n c p) (hb : RdBy w A n) (hp : p ≤ 90000) (hn : n ≤ 9223372036854775807) (hne : 0 < n → ∀ a, A = some a → a.block ≠ g) :
    Calls Tryd.prog 18 #[.pointer (some ⟨g, 0, none⟩)] w (HexPost g A n c p 6 w) := by
  have glt := h.lt
  have k0 := (Kp.refl w).alloc (.cells #[.int .i64 0, .int .i64 0] 25)
  have CH := hex_any g A n c p _ (h.keep k0) (hb.keep k0) hp hn hne
  unfold HexPost at CH
  have HC := Lib.hid CH
  have H0 := Lib.hid (hb.keep k0)
  have HNE := Lib.hid hne
  have G0 := Lib.hid (grown_alloc (World.grownBy.refl w (some g)) (.cells #[.int .i64 0, .int .i64 0] 25))
  clear h hb hne k0 CH
  go_enter Tryd.func18, Tryd.ntmps18
  go_wp2_with fail
  have l0 : Live2 (w.alloc (.cells #[.int .i64 0, .int .i64 0] 25)) w.heap.size (.int .i64 0) (.int .i64 0) := ⟨by simp [go_sem], by simp [go_sem]⟩
  have hb2 : w.heap.size < (w.alloc (.cells #[.int .i64 0, .int .i64 0] 25)).heap.size := by simp
  refine HC.out.mono ?_
  rintro e1 w1 ⟨q, r, rfl, bd, ⟨p1, hp1, cu1⟩, g1⟩
  have kb := (Kp.refl w1).alloc (.cells #[.int .i64 q, .int .i64 r] 25)
  have l1 := live2_kp kb (live2_grown g1 (by omega) l0)
  have m1 : Live2 (w1.alloc (.cells #[.int .i64 q, .int .i64 r] 25)) w1.heap.size (.int .i64 q) (.int .i64 r) := ⟨by simp [go_sem], by simp [go_sem]⟩
  have H1 := Lib.hid (And.intro (cu1.keep kb) ((H0.out.grown g1 HNE.out).keep kb))
  have G1 := Lib.hid (grown_keep (G0.out.trans g1) kb)
  have z1 : w.heap.size < w1.heap.size := Nat.lt_of_lt_of_le hb2 g1.size
  have z1b : w1.heap.size < (w1.alloc (.cells #[.int .i64 q, .int .i64 r] 25)).heap.size := by simp
  clear cu1 g1 H0 G0 l0 hb2 kb HC
  go_wp2_with fail
  generalize w1.heap.size = b3 at *
  generalize w1.alloc (.cells #[.int .i64 q, .int .i64 r] 25) = W1 at *
  have CO := one_any g A n c p1 24 W1 H1.out.1 H1.out.2 (by omega) hn (by omega) (by omega)
  unfold OnePost at CO
  have HO := Lib.hid CO
  clear CO
  refine HO.out.mono ?_
  rintro e2 w2 ⟨bb, rfl, ⟨p2, hp2, cu2⟩, g2⟩
  have l2 := live2_grown g2 (by omega) l1
  have m2 := live2_grown g2 (by omega) m1
  have H2 := Lib.hid (And.intro cu2 (H1.out.2.grown g2 HNE.out))
  have G2 := Lib.hid (G1.out.trans g2)
  have z2 : b3 < w2.heap.size := Nat.lt_of_lt_of_le z1b g2.size
  clear cu2 g2 H1 G1 l1 m1 z1b HO
  cases bb
  · go_wp2_with fail
    exact bodyPost_ret (v := hx q r) (by simp [results, Tryd.results18, go_sem, *]) rfl ⟨_, _, rfl, bd, ⟨p2, by omega, (H2.out.1.far (by omega) _).far (by omega) _⟩, grown_new (grown_new G2.out (by simp <;> omega) _) (by simp <;> omega) _⟩
  · have CA := Lib.hid (fun (w : World) h hb hl hne => among_any g A n c p2 w2.heap.size 0 2 2 (-41) 41 w h hb (by omega) hn (by omega) (by omega) hl hne)
    unfold DrawPost at CA
    have ka := (Kp.refl w2).alloc (.cells #[.int .i64 41, .int .i64 (-41)] 3)
    go_wp2_with fail
    refine (CA.out _ (H2.out.1.keep ka) (H2.out.2.keep ka) (two_at w2 41 (-41) (-41) 41 _ (by omega) (by omega)) (by omega)).mono ?_
    rintro e4 w4 ⟨v, rfl, v0, v1, ⟨p4, hp4, cu4⟩, g4⟩
    have l4 := live2_grown g4 (by omega) (live2_kp ka l2)
    have m4 := live2_grown g4 (by omega) (live2_kp ka m2)
    have G4 := Lib.hid ((grown_keep G2.out ka).trans g4)
    have CU := Lib.hid cu4
    clear l2 m2 G2 H2 g4 cu4 ka
    go_wp2_with fail
    exact bodyPost_ret (v := hx v r) (by simp [results, Tryd.results18, go_sem, *]) rfl ⟨_, _, rfl, by omega, ⟨p4, by omega, ((CU.out.far (by omega) _).far (by omega) _).far (by omega) _⟩, grown_new (grown_new (grown_new G4.out (by simp <;> omega) _) (by simp <;> omega) _) (by simp <;> omega) _⟩

theorem RdBy.lt {w : World} {A : Option Addr} {n : Nat} (h : RdBy w A n) : 0 < n → ∀ a, A = some a → a.block < w.heap.size := fun h0 a ha => by
  obtain ⟨gb, ob, rfl, hx⟩ := h h0
  obtain ⟨x, _, _, cx⟩ := hx 0 h0
  obtain rfl := Option.some.inj ha
  exact cell_lt cx

/-- Two hexes drawn. -/
def TwoPost (w : World) (e : Ending) (w' : World) : Prop :=
  ∃ q r q' r' : Int, e = .returned (.tuple #[hx q r, hx q' r']) ∧ (-41 ≤ q ∧ q ≤ 41 ∧ -41 ≤ r ∧ r ≤ 41) ∧ (-41 ≤ q' ∧ q' ≤ 41 ∧ -41 ≤ r' ∧ r' ≤ 41) ∧ Kp w w'

end Go.Proofs.YtmodcmkmfedgoaaDoor
