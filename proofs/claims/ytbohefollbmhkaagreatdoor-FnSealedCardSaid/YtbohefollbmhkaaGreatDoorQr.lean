/-
  Texts of this seat in one module: Cur, CurHex, CuB, DrN.
-/
import Derived.Deep.QuietTactic
import Derived.BigQuiet
import Derived.Laws.Bits64b
import Derived.OpenShut
import Derived.Deep.Cut
import Derived.OwnWalk
import Derived.Test.YtbohefollbmhkaaGreatDoorQa
import Derived.Test.YtbohefollbmhkaaGreatDoorQb

/-
  The reference's drawing cursor: what it draws is within its bounds; only its own block is written.
-/
namespace Go.Proofs.YtbohefollbmhkaaGreatDoor
open Go.RowKit

/-- Bytes that can be read. -/
def RdBy (w : World) (A : Option Addr) (n : Nat) : Prop := 0 < n → ∃ g off, A = some ⟨g, off, none⟩ ∧ ∀ i : Nat, i < n → ∃ x : Int, 0 ≤ x ∧ x ≤ 255 ∧ w.cell? ⟨g, off + i, none⟩ = some (.int .u8 x)

/-- A cursor in block g, at a place of the bytes. -/
def CurAt (w : World) (g : Nat) (A : Option Addr) (n c : Nat) (p : Nat) : Prop :=
  ∃ s : Int, (0 ≤ s ∧ s < 18446744073709551616) ∧ w.cell? ⟨g, 0, none⟩ = some (.slice A n c) ∧ (w.cell? ⟨g, 1, none⟩ = some (.int .i64 p) ∧ w.frozen? ⟨g, 1, none⟩ = false) ∧ (w.cell? ⟨g, 2, none⟩ = some (.int .u64 s) ∧ w.frozen? ⟨g, 2, none⟩ = false)

/-- Something drawn: a number from lo to hi, the cursor one or more places on; only its block is written. -/
def DrawPost (lo hi : Int) (g : Nat) (A : Option Addr) (n c p k : Nat) (w : World) (e : Ending) (w' : World) : Prop :=
  ∃ x : Int, e = .returned (.int .i64 x) ∧ lo ≤ x ∧ x ≤ hi ∧ (∃ p', p' ≤ p + k ∧ CurAt w' g A n c p') ∧ w.grownBy w' (some g)

theorem u64_bd (x : Int) : 0 ≤ IntKind.u64.wrap x ∧ IntKind.u64.wrap x < 18446744073709551616 := by
  have := wf_wrap .u64 x
  exact ⟨(bounds_u64 this).1, by have := (bounds_u64 this).2; omega⟩

theorem low_bd {S : Int} (SB : 0 ≤ S ∧ S < 18446744073709551616) : 0 ≤ wrap64 (bits BinOp.and IntKind.u64 (S / 1099511627776) 255) ∧ wrap64 (bits BinOp.and IntKind.u64 (S / 1099511627776) 255) ≤ 255 := by
  obtain ⟨a, ha⟩ : ∃ a : Nat, (a : Int) = S / 1099511627776 := ⟨(S / 1099511627776).toNat, by omega⟩
  rw [← ha, show (255 : Int) = ((255 : Nat) : Int) from rfl, bits_and_u64_nat a 255 (by omega) (by omega)]
  have h := Nat.and_le_right (n := a) (m := 255)
  have e : wrap64 ((a &&& 255 : Nat) : Int) = ((a &&& 255 : Nat) : Int) := by
    unfold wrap64
    omega
  rw [e]
  omega
theorem grown_drewN {w w' : World} {row : Option Nat} (h : w.grownBy w' row) (n : Nat) : w.grownBy (w'.drewN n) row := ⟨h.os, h.tape, h.output, h.size, h.block⟩
theorem grown_store {w w' : World} {g : Nat} (h : w.grownBy w' (some g)) (j : Nat) (u : Value) : w.grownBy (w'.setCell ⟨g, j, none⟩ u) (some g) := h.trans (grown_set w' g j u)

theorem cur_stored {w : World} {g : Nat} {A : Option Addr} {n c p : Nat} {s S : Int} (SB : 0 ≤ S ∧ S < 18446744073709551616) (c0 : w.cell? ⟨g, 0, none⟩ = some (.slice A n c)) (c1 : w.cell? ⟨g, 1, none⟩ = some (.int .i64 p)) (f1 : w.frozen? ⟨g, 1, none⟩ = false) (c2 : w.cell? ⟨g, 2, none⟩ = some (.int .u64 s)) (f2 : w.frozen? ⟨g, 2, none⟩ = false) (N : Nat) :
    CurAt (((w.drewN N).setCell ⟨g, 1, none⟩ (.int .i64 ((p : Int) + 1))).setCell ⟨g, 2, none⟩ (.int .u64 S)) g A n c (p + 1) ∧ w.grownBy (((w.drewN N).setCell ⟨g, 1, none⟩ (.int .i64 ((p : Int) + 1))).setCell ⟨g, 2, none⟩ (.int .u64 S)) (some g) :=
  ⟨⟨S, SB, by simp [go_sem, *], ⟨by simp [go_sem, *], by simp [go_sem, *]⟩, ⟨by simp [go_sem, *], by simp [go_sem, *]⟩⟩, grown_store (grown_store (grown_drewN (World.grownBy.refl w _) N) _ _) _ _⟩

set_option maxHeartbeats 1000000 in
theorem next_any (g : Nat) (A : Option Addr) (n c p : Nat) (w : World) (h : CurAt w g A n c p) (hb : RdBy w A n) (hp : p ≤ 100000) (hn : n ≤ 9223372036854775807) :
    Calls Tryz.prog 58 #[.pointer (some ⟨g, 0, none⟩)] w (DrawPost 0 255 g A n c p 1 w) := by
  obtain ⟨s, ⟨s0, s1⟩, c0, ⟨c1, f1⟩, ⟨c2, f2⟩⟩ := h
  by_cases hlt : p < n
  · obtain ⟨gb, ob, rfl, hx⟩ := hb (by omega)
    obtain ⟨x, x0, x1, cx⟩ := hx p hlt
    have hlt' : (p : Int) < n := by omega
    have hle : (p : Int) + 1 ≤ n := by omega
    clear hb hx
    go_enter Tryz.func58, Tryz.ntmps58
    go_wp2_with fail
    go_quiet (fail)
    go_wp2_with fail
    go_quiet (fail)
    go_wp2_with fail
    generalize hS : IntKind.u64.wrap (IntKind.u64.wrap (IntKind.u64.wrap (s * 6364136223846793005) + x) + 1442695040888963407) = S
    have SB : 0 ≤ S ∧ S < 18446744073709551616 := by rw [← hS]; exact u64_bd _
    clear hS
    go_quiet (fail)
    go_wp2_with fail
    go_ret
    exact ⟨x, rfl, x0, x1, ⟨p + 1, Nat.le_refl _, (cur_stored SB c0 c1 f1 c2 f2 _).1⟩, grown_drewN (cur_stored SB c0 c1 f1 c2 f2 _).2 _⟩
  · have hge : decide ((p : Int) < n) = false := by simp; omega
    have hge2 : decide ((p : Int) + 1 ≤ n) = false := by simp; omega
    go_enter Tryz.func58, Tryz.ntmps58
    go_wp2_with fail
    go_quiet (fail)
    go_wp2_with fail
    generalize hS : IntKind.u64.wrap (IntKind.u64.wrap (IntKind.u64.wrap (s * 6364136223846793005)) + 1442695040888963407) = S
    have SB : 0 ≤ S ∧ S < 18446744073709551616 := by rw [← hS]; exact u64_bd _
    clear hS
    go_quiet (fail)
    go_wp2_with fail
    go_ret
    exact ⟨_, rfl, (low_bd SB).1, (low_bd SB).2, ⟨p + 1, Nat.le_refl _, (cur_stored SB c0 c1 f1 c2 f2 _).1⟩, grown_drewN (cur_stored SB c0 c1 f1 c2 f2 _).2 _⟩


theorem RdBy.grown {w w' : World} {g : Nat} {A : Option Addr} {n : Nat} (h : RdBy w A n) (hg : w.grownBy w' (some g)) (hne : 0 < n → ∀ a, A = some a → a.block ≠ g) : RdBy w' A n := fun h0 => by
  obtain ⟨gb, ob, rfl, hx⟩ := h h0
  refine ⟨gb, ob, rfl, fun i hi => ?_⟩
  obtain ⟨x, x0, x1, cx⟩ := hx i hi
  exact ⟨x, x0, x1, hg.cell cx (fun e => hne h0 _ rfl (Option.some.inj e))⟩
theorem RdBy.keep {w w' : World} {A : Option Addr} {n : Nat} (h : RdBy w A n) (hk : Kp w w') : RdBy w' A n := fun h0 => by
  obtain ⟨gb, ob, rfl, hx⟩ := h h0
  refine ⟨gb, ob, rfl, fun i hi => ?_⟩
  obtain ⟨x, x0, x1, cx⟩ := hx i hi
  exact ⟨x, x0, x1, hk.cell cx⟩

theorem pick_any (g : Nat) (A : Option Addr) (n c p : Nat) (m : Int) (w : World) (h : CurAt w g A n c p) (hb : RdBy w A n) (hp : p ≤ 99990) (hn : n ≤ 9223372036854775807) (m1 : 2 ≤ m) (m2 : m ≤ 200) :
    Calls Tryz.prog 34 #[.pointer (some ⟨g, 0, none⟩), .int .i64 m] w (DrawPost 0 (m - 1) g A n c p 1 w) := by
  have C := next_any g A n c p w h hb (by omega) hn
  unfold DrawPost at C
  have HC := Lib.hid C
  have hm0 : m ≠ 0 := by omega
  clear C h hb
  go_enter Tryz.func34, Tryz.ntmps34
  go_wp2_with fail
  refine HC.out.mono ?_
  rintro e w1 ⟨x, rfl, x0, x1, hcur, hg⟩
  have HG := Lib.hid (And.intro hcur hg)
  have hb : 0 ≤ x % m ∧ x % m ≤ m - 1 := ⟨Int.emod_nonneg _ (by omega), by have := Int.emod_lt_of_pos x (show 0 < m by omega); omega⟩
  clear hcur hg
  go_wp2_with fail
  go_ret
  exact ⟨_, rfl, hb.1, hb.2, HG.out.1, HG.out.2⟩

/-- A bool drawn. -/
def OnePost (g : Nat) (A : Option Addr) (n c p k : Nat) (w : World) (e : Ending) (w' : World) : Prop :=
  ∃ b : Bool, e = .returned (.bool b) ∧ (∃ p', p' ≤ p + k ∧ CurAt w' g A n c p') ∧ w.grownBy w' (some g)
theorem one_any (g : Nat) (A : Option Addr) (n c p : Nat) (m : Int) (w : World) (h : CurAt w g A n c p) (hb : RdBy w A n) (hp : p ≤ 99990) (hn : n ≤ 9223372036854775807) (m1 : 2 ≤ m) (m2 : m ≤ 200) :
    Calls Tryz.prog 35 #[.pointer (some ⟨g, 0, none⟩), .int .i64 m] w (OnePost g A n c p 1 w) := by
  have C := pick_any g A n c p m w h hb hp hn m1 m2
  unfold DrawPost at C
  have HC := Lib.hid C
  clear C h hb
  go_enter Tryz.func35, Tryz.ntmps35
  go_wp2_with fail
  refine HC.out.mono ?_
  rintro e w1 ⟨x, rfl, x0, x1, hcur, hg⟩
  have HG := Lib.hid (And.intro hcur hg)
  clear hcur hg
  go_wp2_with fail
  go_ret
  exact ⟨_, rfl, HG.out.1, HG.out.2⟩

theorem among_any (g : Nat) (A : Option Addr) (n c p : Nat) (gl ol ln cl : Nat) (lo hi : Int) (w : World) (h : CurAt w g A n c p) (hb : RdBy w A n) (hp : p ≤ 99990) (hn : n ≤ 9223372036854775807) (l1 : 2 ≤ ln) (l2 : ln ≤ 200)
    (hl : ∀ i : Nat, i < ln → ∃ x : Int, lo ≤ x ∧ x ≤ hi ∧ w.cell? ⟨gl, ol + i, none⟩ = some (.int .i64 x)) (hne : gl ≠ g) :
    Calls Tryz.prog 49 #[.pointer (some ⟨g, 0, none⟩), .slice (some ⟨gl, ol, none⟩) ln cl] w (DrawPost lo hi g A n c p 1 w) := by
  have C := pick_any g A n c p ln w h hb hp hn (by omega) (by omega)
  unfold DrawPost at C
  have HC := Lib.hid C
  have HL := Lib.hid hl
  clear C h hb hl
  go_enter Tryz.func49, Tryz.ntmps49
  go_wp2_with fail
  refine HC.out.mono ?_
  rintro e w1 ⟨x, rfl, x0, x1, hcur, hg⟩
  obtain ⟨k, rfl⟩ := Int.eq_ofNat_of_zero_le x0
  obtain ⟨y, y0, y1, cy⟩ := HL.out k (by omega)
  have cy' := hg.cell cy (fun e => hne (Option.some.inj e))
  have hk : (k : Int) < ln := by omega
  have HG := Lib.hid (And.intro hcur hg)
  clear hcur hg cy
  go_wp2_with fail
  go_ret
  exact ⟨_, rfl, y0, y1, HG.out.1, HG.out.2⟩

end Go.Proofs.YtbohefollbmhkaaGreatDoor

/-
  Hexes drawn by the reference's cursor: their coordinates are within 41; nothing that was there is changed but the cursor.
-/
namespace Go.Proofs.YtbohefollbmhkaaGreatDoor
open Go.RowKit

theorem CurAt.keep {w w' : World} {g : Nat} {A : Option Addr} {n c p : Nat} (h : CurAt w g A n c p) (k : Kp w w') : CurAt w' g A n c p := by
  obtain ⟨s, sb, c0, l1, l2⟩ := h
  exact ⟨s, sb, k.cell c0, k.liv l1, k.liv l2⟩
theorem CurAt.lt {w : World} {g : Nat} {A : Option Addr} {n c p : Nat} (h : CurAt w g A n c p) : g < w.heap.size := by
  obtain ⟨s, sb, c0, l1, l2⟩ := h
  exact cell_lt c0
theorem grown_alloc {w w' : World} {row : Option Nat} (h : w.grownBy w' row) (o : Obj) : w.grownBy (w'.alloc o) row :=
  ⟨h.os, h.tape, h.output, Nat.le_trans h.size (by simp), fun i hi hne => (Below.heap_alloc w' o i (Nat.lt_of_lt_of_le hi h.size)).trans (h.block i hi hne)⟩
theorem grown_new {w w' : World} {row : Option Nat} (h : w.grownBy w' row) {p : Addr} (hp : w.heap.size ≤ p.block) (u : Value) : w.grownBy (w'.setCell p u) row :=
  ⟨h.os, h.tape, h.output, by simpa [World.setCell] using h.size, fun i hi hne => (Below.heap_setCell w' p u i (by intro e; omega)).trans (h.block i hi hne)⟩
theorem grown_keep {w w' w'' : World} {row : Option Nat} (h : w.grownBy w' row) (k : Kp w' w'') : w.grownBy w'' row :=
  ⟨k.os.trans h.os, k.tape.trans h.tape, k.output.trans h.output, Nat.le_trans h.size k.size, fun i hi hne => (k.block i (Nat.lt_of_lt_of_le hi h.size)).trans (h.block i hi hne)⟩
theorem CurAt.far {w : World} {g b j : Nat} {A : Option Addr} {n c p : Nat} (h : CurAt w g A n c p) (hne : g ≠ b) (u : Value) : CurAt (w.setCell ⟨b, j, none⟩ u) g A n c p := by
  obtain ⟨s, sb, c0, l1, l2⟩ := h
  have hg := grown_set w b j u
  have ne : some g ≠ some b := fun e => hne (Option.some.inj e)
  exact ⟨s, sb, hg.cell c0 ne, ⟨hg.cell l1.1 ne, grown_frozen hg l1.1 ne l1.2⟩, ⟨hg.cell l2.1 ne, grown_frozen hg l2.1 ne l2.2⟩⟩
/-- Two cells of a box that can be written. -/
abbrev Live2 (w : World) (b : Nat) (u0 u1 : Value) : Prop := (w.cell? ⟨b, 0, none⟩ = some u0 ∧ w.frozen? ⟨b, 0, none⟩ = false) ∧ (w.cell? ⟨b, 1, none⟩ = some u1 ∧ w.frozen? ⟨b, 1, none⟩ = false)
theorem live2_grown {w w' : World} {g b : Nat} {u0 u1 : Value} (hg : w.grownBy w' (some g)) (hne : b ≠ g) (h : Live2 w b u0 u1) : Live2 w' b u0 u1 :=
  have ne : some b ≠ some g := fun e => hne (Option.some.inj e)
  ⟨⟨hg.cell h.1.1 ne, grown_frozen hg h.1.1 ne h.1.2⟩, ⟨hg.cell h.2.1 ne, grown_frozen hg h.2.1 ne h.2.2⟩⟩
theorem live2_kp {w w' : World} {b : Nat} {u0 u1 : Value} (k : Kp w w') (h : Live2 w b u0 u1) : Live2 w' b u0 u1 := ⟨k.liv h.1, k.liv h.2⟩

/-- A hex drawn. -/
def HexPost (g : Nat) (A : Option Addr) (n c p k : Nat) (w : World) (e : Ending) (w' : World) : Prop :=
  ∃ q r : Int, e = .returned (hx q r) ∧ (-41 ≤ q ∧ q ≤ 41 ∧ -41 ≤ r ∧ r ≤ 41) ∧ (∃ p', p' ≤ p + k ∧ CurAt w' g A n c p') ∧ w.grownBy w' (some g)

theorem three_at (w : World) (x y z lo hi : Int) (T : TypeId) (hx : lo ≤ x ∧ x ≤ hi) (hy : lo ≤ y ∧ y ≤ hi) (hz : lo ≤ z ∧ z ≤ hi) :
    ∀ i : Nat, i < 3 → ∃ u : Int, lo ≤ u ∧ u ≤ hi ∧ (w.alloc (.cells #[.int .i64 x, .int .i64 y, .int .i64 z] T)).cell? ⟨w.heap.size, 0 + i, none⟩ = some (.int .i64 u)
  | 0, _ => ⟨x, hx.1, hx.2, by simp [go_sem]⟩
  | 1, _ => ⟨y, hy.1, hy.2, by simp [go_sem]⟩
  | 2, _ => ⟨z, hz.1, hz.2, by simp [go_sem]⟩
theorem two_at (w : World) (x y lo hi : Int) (T : TypeId) (hx : lo ≤ x ∧ x ≤ hi) (hy : lo ≤ y ∧ y ≤ hi) :
    ∀ i : Nat, i < 2 → ∃ u : Int, lo ≤ u ∧ u ≤ hi ∧ (w.alloc (.cells #[.int .i64 x, .int .i64 y] T)).cell? ⟨w.heap.size, 0 + i, none⟩ = some (.int .i64 u)
  | 0, _ => ⟨x, hx.1, hx.2, by simp [go_sem]⟩
  | 1, _ => ⟨y, hy.1, hy.2, by simp [go_sem]⟩

theorem RdBy.lt {w : World} {A : Option Addr} {n : Nat} (h : RdBy w A n) : 0 < n → ∀ a, A = some a → a.block < w.heap.size := fun h0 a ha => by
  obtain ⟨gb, ob, rfl, hx⟩ := h h0
  obtain ⟨x, _, _, cx⟩ := hx 0 h0
  obtain rfl := Option.some.inj ha
  exact cell_lt cx

/-- Two hexes drawn. -/
def TwoPost (w : World) (e : Ending) (w' : World) : Prop :=
  ∃ q r q' r' : Int, e = .returned (.tuple #[hx q r, hx q' r']) ∧ (-41 ≤ q ∧ q ≤ 41 ∧ -41 ≤ r ∧ r ≤ 41) ∧ (-41 ≤ q' ∧ q' ≤ 41 ∧ -41 ≤ r' ∧ r' ≤ 41) ∧ Kp w w'

end Go.Proofs.YtbohefollbmhkaaGreatDoor

/-
  The reference's drawing cursor, told by a bound on its place alone: what it draws lies within bounds, its own block alone is written; what else the call makes of its own stands beside it.
-/
namespace Go.Proofs.YtbohefollbmhkaaGreatDoor
open Go.RowKit

/-- A cursor in block g, its bytes below base too, at most K places on. -/
def Cu (w : World) (base g K : Nat) : Prop :=
  ∃ (A : Option Addr) (n c p : Nat), CurAt w g A n c p ∧ RdBy w A n ∧ n ≤ 9223372036854775807 ∧ p ≤ K ∧ g < base ∧ (0 < n → ∀ a, A = some a → a.block ≠ g ∧ a.block < base)
theorem Cu.le {w : World} {base g K K' : Nat} (h : Cu w base g K) (hK : K ≤ K') : Cu w base g K' := by
  obtain ⟨A, n, c, p, h1, h2, h3, h4, h5⟩ := h
  exact ⟨A, n, c, p, h1, h2, h3, by omega, h5⟩
theorem Cu.up {w : World} {base base' g K : Nat} (h : Cu w base g K) (hb : base ≤ base') : Cu w base' g K := by
  obtain ⟨A, n, c, p, h1, h2, h3, h4, h5, h6⟩ := h
  exact ⟨A, n, c, p, h1, h2, h3, h4, by omega, fun h0 a ha => ⟨(h6 h0 a ha).1, by have := (h6 h0 a ha).2; omega⟩⟩
theorem Cu.lt {w : World} {base g K : Nat} (h : Cu w base g K) : g < base := by
  obtain ⟨A, n, c, p, h1, h2, h3, h4, h5, _⟩ := h
  exact h5
theorem Cu.own {w w' : World} {base g K : Nat} {row : Option Nat} (h : Cu w base g K) (k : w.grownBy w' row) (hr : ∀ r, row = some r → base ≤ r) : Cu w' base g K := by
  obtain ⟨A, n, c, p, ⟨s, sb, c0, l1, l2⟩, h2, h3, h4, h5, h6⟩ := h
  have ne : some g ≠ row := fun e => by have := hr g e.symm; omega
  refine ⟨A, n, c, p, ⟨s, sb, k.cell c0 ne, ⟨k.cell l1.1 ne, grown_frozen k l1.1 ne l1.2⟩, ⟨k.cell l2.1 ne, grown_frozen k l2.1 ne l2.2⟩⟩, fun h0 => ?_, h3, h4, h5, h6⟩
  obtain ⟨gb, ob, rfl, hx⟩ := h2 h0
  refine ⟨gb, ob, rfl, fun i hi => ?_⟩
  obtain ⟨x, x0, x1, cx⟩ := hx i hi
  exact ⟨x, x0, x1, k.cell cx (fun e => by have := hr gb e.symm; have := (h6 h0 _ rfl).2; simp only at this; omega)⟩
theorem Cu.keep {w w' : World} {base g K : Nat} (h : Cu w base g K) (k : Kp w w') : Cu w' base g K := by
  obtain ⟨A, n, c, p, h1, h2, h3⟩ := h
  exact ⟨A, n, c, p, h1.keep k, h2.keep k, h3⟩
/-- Behind w0 all is as it was but the cursor's block: a draw, a write into what is new. -/
theorem gw_own {w0 w w' : World} {g : Nat} {row : Option Nat} (h : w0.grownBy w (some g)) (k : w.grownBy w' row) (hr : ∀ r, row = some r → w0.heap.size ≤ r) : w0.grownBy w' (some g) :=
  ⟨k.os.trans h.os, k.tape.trans h.tape, k.output.trans h.output, Nat.le_trans h.size k.size, fun i hi hne => (k.block i (Nat.lt_of_lt_of_le hi h.size) (fun e => by have := hr i e.symm; omega)).trans (h.block i hi hne)⟩
theorem OwnI.draw {w w' : World} {base g : Nat} {v : Value} {l : List Int} (h : OwnI w base v l) (k : w.grownBy w' (some g)) (hg : g < base) : OwnI w' base v l :=
  World.ownsRow.kept h k (by
    cases hv : v.ownBlock
    · exact .inl rfl
    · rename_i j
      refine .inr fun e => ?_
      have h1 := (World.ownsRow.lt h j hv).1
      obtain rfl := Option.some.inj e
      omega)

theorem pick_low (g : Nat) (m : Int) (w : World) (hm : m ≤ 1) :
    Calls Tryz.prog 34 #[.pointer (some ⟨g, 0, none⟩), .int .i64 m] w fun e w' => e = .returned (.int .i64 0) ∧ w = w' := by
  go_enter Tryz.func34, Tryz.ntmps34
  go_wp2_with fail
  go_ret
  exact ⟨rfl, rfl⟩
/-- A number drawn. -/
def PickC (base g K : Nat) (lo hi : Int) (w : World) (e : Ending) (w' : World) : Prop :=
  ∃ x : Int, e = .returned (.int .i64 x) ∧ lo ≤ x ∧ x ≤ hi ∧ Cu w' base g (K + 1) ∧ w.grownBy w' (some g)
theorem pickC (base g K : Nat) (m : Int) (w : World) (h : Cu w base g K) (hK : K ≤ 90000) (m1 : 1 ≤ m) (m2 : m ≤ 200) :
    Calls Tryz.prog 34 #[.pointer (some ⟨g, 0, none⟩), .int .i64 m] w (PickC base g K 0 (m - 1) w) := by
  by_cases hm : m = 1
  · subst hm
    refine (pick_low g 1 w (by omega)).mono ?_
    rintro e w' ⟨rfl, rfl⟩
    exact ⟨0, rfl, by omega, by omega, h.le (by omega), World.grownBy.refl w _⟩
  · obtain ⟨A, n, c, p, h1, h2, h3, h4, h5, h6⟩ := h
    refine (pick_any g A n c p m w h1 h2 (by omega) h3 (by omega) m2).mono ?_
    rintro e w' ⟨x, rfl, x0, x1, ⟨p', hp', cu⟩, hg⟩
    exact ⟨x, rfl, x0, x1, ⟨A, n, c, p', cu, h2.grown hg (fun h0 a ha => (h6 h0 a ha).1), h3, by omega, h5, h6⟩, hg⟩
def OneC (base g K : Nat) (w : World) (e : Ending) (w' : World) : Prop :=
  ∃ b : Bool, e = .returned (.bool b) ∧ Cu w' base g (K + 1) ∧ w.grownBy w' (some g)
theorem oneC (base g K : Nat) (m : Int) (w : World) (h : Cu w base g K) (hK : K ≤ 90000) (m1 : 2 ≤ m) (m2 : m ≤ 200) :
    Calls Tryz.prog 35 #[.pointer (some ⟨g, 0, none⟩), .int .i64 m] w (OneC base g K w) := by
  obtain ⟨A, n, c, p, h1, h2, h3, h4, h5, h6⟩ := h
  refine (one_any g A n c p m w h1 h2 (by omega) h3 m1 m2).mono ?_
  rintro e w' ⟨b, rfl, ⟨p', hp', cu⟩, hg⟩
  exact ⟨b, rfl, ⟨A, n, c, p', cu, h2.grown hg (fun h0 a ha => (h6 h0 a ha).1), h3, by omega, h5, h6⟩, hg⟩
theorem amongC (base g K : Nat) (gl ol ln cl : Nat) (lo hi : Int) (w : World) (h : Cu w base g K) (hK : K ≤ 90000) (l1 : 2 ≤ ln) (l2 : ln ≤ 200)
    (hl : ∀ i : Nat, i < ln → ∃ x : Int, lo ≤ x ∧ x ≤ hi ∧ w.cell? ⟨gl, ol + i, none⟩ = some (.int .i64 x)) (hne : gl ≠ g) :
    Calls Tryz.prog 49 #[.pointer (some ⟨g, 0, none⟩), .slice (some ⟨gl, ol, none⟩) ln cl] w (PickC base g K lo hi w) := by
  obtain ⟨A, n, c, p, h1, h2, h3, h4, h5, h6⟩ := h
  refine (among_any g A n c p gl ol ln cl lo hi w h1 h2 (by omega) h3 l1 l2 hl hne).mono ?_
  rintro e w' ⟨x, rfl, x0, x1, ⟨p', hp', cu⟩, hg⟩
  exact ⟨x, rfl, x0, x1, ⟨A, n, c, p', cu, h2.grown hg (fun h0 a ha => (h6 h0 a ha).1), h3, by omega, h5, h6⟩, hg⟩

end Go.Proofs.YtbohefollbmhkaaGreatDoor

/-
  The reference's draws of seeds and numbers: what they give are numbers; all that was there is as it was.
-/
namespace Go.Proofs.YtbohefollbmhkaaGreatDoor
open Go.RowKit

/-- A number drawn, the cursor at most at place K. -/
def NumC (base g K : Nat) (w : World) (e : Ending) (w' : World) : Prop :=
  ∃ x : Int, e = .returned (.int .i64 x) ∧ Cu w' base g K ∧ w.grownBy w' (some g)

theorem pickW (base g K : Nat) (m : Int) (w : World) (h : Cu w base g K) (hK : K ≤ 90000) (m1 : 201 ≤ m) (m2 : m ≤ 65536) :
    Calls Tryz.prog 34 #[.pointer (some ⟨g, 0, none⟩), .int .i64 m] w (NumC base g (K + 2) w) := by
  obtain ⟨A, n, c, p, h1, h2, h3, h4, h5, h6⟩ := h
  have C1 := Lib.hid (next_any g A n c p w h1 h2 (by omega) h3)
  have C2 := Lib.hid (fun w p' (hp : p' ≤ p + 1) h1 h2 => next_any g A n c p' w h1 h2 (by omega) h3)
  have H2 := Lib.hid h2
  have H6 := Lib.hid h6
  have hm0 : m ≠ 0 := by omega
  clear h1 h2 h6
  unfold DrawPost at C1 C2
  go_enter Tryz.func34, Tryz.ntmps34
  go_wp2_with fail
  refine C1.out.mono ?_
  rintro e1 w1 ⟨x, rfl, x0, x1, ⟨p1, hp1, cu1⟩, g1⟩
  have HR1 := Lib.hid (H2.out.grown g1 (fun h0 a ha => (H6.out h0 a ha).1))
  have HG1 := Lib.hid g1
  have HC1 := Lib.hid cu1
  clear g1 cu1
  go_wp2_with fail
  refine (C2.out _ p1 hp1 HC1.out HR1.out).mono ?_
  rintro e2 w2 ⟨y, rfl, y0, y1, ⟨p2, hp2, cu2⟩, g2⟩
  have HG2 := Lib.hid (And.intro cu2 g2)
  have hb : 0 ≤ (x * 256 + y) % m ∧ (x * 256 + y) % m ≤ m - 1 := ⟨Int.emod_nonneg _ (by omega), by have := Int.emod_lt_of_pos (x * 256 + y) (show 0 < m by omega); omega⟩
  clear cu2 g2
  go_wp2_with fail
  go_ret
  exact ⟨_, rfl, ⟨A, n, c, p2, HG2.out.1, HR1.out.grown HG2.out.2 (fun h0 a ha => (H6.out h0 a ha).1), h3, by omega, h5, H6.out⟩, HG1.out.trans HG2.out.2⟩

set_option maxRecDepth 100000 in
theorem seedC (base g K : Nat) (w : World) (h : Cu w base g K) (hK : K ≤ 80000) :
    Calls Tryz.prog 48 #[.pointer (some ⟨g, 0, none⟩)] w (NumC base g (K + 3) w) := by
  have C1 := Lib.hid (pickC base g K 12 w h (by omega) (by omega) (by omega))
  have C2 := Lib.hid (fun w hc => pickW base g (K + 1) 60000 w hc (by omega) (by omega) (by omega))
  have CA := Lib.hid (fun (w : World) (hc : Cu w base g (K + 1)) (hg : g < w.heap.size) => amongC base g (K + 1) w.heap.size 0 2 2 (-1) 4611686016279904237 (w.alloc (.cells #[.int .i64 4611686016279904236, .int .i64 123456789012] 3)) (hc.keep ((Kp.refl _).alloc _)) (by omega) (by omega) (by omega) (fun i hi => by rcases (show i = 0 ∨ i = 1 by omega) with rfl | rfl; exact ⟨4611686016279904236, by omega, by omega, by simp [go_sem]⟩; exact ⟨123456789012, by omega, by omega, by simp [go_sem]⟩) (by omega))
  have hgs := h.lt
  unfold PickC at C1
  unfold PickC at CA
  unfold NumC at C2
  have hgw : g < w.heap.size := by
    obtain ⟨A, n, c, p, cu, _⟩ := h
    exact cu.lt
  clear h
  go_enter Tryz.func48, Tryz.ntmps48
  go_wp2_with fail
  refine C1.out.mono ?_
  rintro e1 w1 ⟨x, rfl, x0, x1, cu1, g1⟩
  have HC1 := Lib.hid cu1
  have HG1 := Lib.hid g1
  have hgw1 : g < w1.heap.size := Nat.lt_of_lt_of_le hgw g1.size
  clear cu1 g1 C1
  by_cases h0 : x = 0
  · subst h0
    go_wp2_with fail
    go_ret
    exact ⟨0, rfl, HC1.out.le (by omega), HG1.out⟩
  · by_cases h1 : x = 1
    · subst h1
      go_wp2_with fail
      refine (CA.out w1 HC1.out hgw1).mono ?_
      rintro e2 w2 ⟨y, rfl, y0, y1, cu2, g2⟩
      have HC2 := Lib.hid cu2
      have HG2 := Lib.hid ((HG1.out.trans ((World.grownBy_alloc _ _ _))).trans g2)
      clear cu2 g2
      go_wp2_with fail
      go_ret
      exact ⟨y, rfl, HC2.out.le (by omega), HG2.out⟩
    · have e0 : (x == 0) = false := by simpa using h0
      have e1 : (x == 1) = false := by simpa using h1
      go_wp2_with fail
      refine (C2.out _ HC1.out).mono ?_
      rintro e2 w2 ⟨y, rfl, cu2, g2⟩
      have HC2 := Lib.hid cu2
      have HG2 := Lib.hid (HG1.out.trans g2)
      clear cu2 g2
      go_wp2_with fail
      go_ret
      exact ⟨y, rfl, HC2.out.le (by omega), HG2.out⟩

set_option maxRecDepth 100000 in
theorem anySeedC (base g K : Nat) (w : World) (h : Cu w base g K) (hK : K ≤ 70000) :
    Calls Tryz.prog 43 #[.pointer (some ⟨g, 0, none⟩)] w (NumC base g (K + 4) w) := by
  have C1 := Lib.hid (oneC base g K 24 w h (by omega) (by omega) (by omega))
  have C2 := Lib.hid (fun w hc => seedC base g (K + 1) w hc (by omega))
  have CA := Lib.hid (fun (w : World) (hc : Cu w base g (K + 1)) (hg : g < w.heap.size) => amongC base g (K + 1) w.heap.size 0 2 2 (-1) 4611686016279904237 (w.alloc (.cells #[.int .i64 (-1), .int .i64 4611686016279904237] 3)) (hc.keep ((Kp.refl _).alloc _)) (by omega) (by omega) (by omega) (fun i hi => by rcases (show i = 0 ∨ i = 1 by omega) with rfl | rfl; exact ⟨(-1), by omega, by omega, by simp [go_sem]⟩; exact ⟨4611686016279904237, by omega, by omega, by simp [go_sem]⟩) (by omega))
  unfold OneC at C1
  unfold PickC at CA
  unfold NumC at C2
  have hgw : g < w.heap.size := by
    obtain ⟨A, n, c, p, cu, _⟩ := h
    exact cu.lt
  clear h
  go_enter Tryz.func43, Tryz.ntmps43
  go_wp2_with fail
  refine C1.out.mono ?_
  rintro e1 w1 ⟨b, rfl, cu1, g1⟩
  have HC1 := Lib.hid cu1
  have HG1 := Lib.hid g1
  have hgw1 : g < w1.heap.size := Nat.lt_of_lt_of_le hgw g1.size
  clear cu1 g1 C1
  cases b
  · go_wp2_with fail
    refine (C2.out _ HC1.out).mono ?_
    rintro e2 w2 ⟨y, rfl, cu2, g2⟩
    have HC2 := Lib.hid cu2
    have HG2 := Lib.hid (HG1.out.trans g2)
    clear cu2 g2
    go_wp2_with fail
    go_ret
    exact ⟨y, rfl, HC2.out.le (by omega), HG2.out⟩
  · go_wp2_with fail
    refine (CA.out w1 HC1.out hgw1).mono ?_
    rintro e2 w2 ⟨y, rfl, y0, y1, cu2, g2⟩
    have HC2 := Lib.hid cu2
    have HG2 := Lib.hid ((HG1.out.trans ((World.grownBy_alloc _ _ _))).trans g2)
    clear cu2 g2
    go_wp2_with fail
    go_ret
    exact ⟨y, rfl, HC2.out.le (by omega), HG2.out⟩

end Go.Proofs.YtbohefollbmhkaaGreatDoor
