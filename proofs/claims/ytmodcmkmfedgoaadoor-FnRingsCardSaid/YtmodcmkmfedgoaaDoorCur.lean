/-
  The reference's drawing cursor: what it draws is within its bounds; only its own block is written.
-/
import Derived.Test.YtmodcmkmfedgoaaDoorRowB
import Derived.Deep.QuietTactic
import Derived.BigQuiet
import Derived.Laws.Bits64b
import Derived.OpenShut
namespace Go.Proofs.YtmodcmkmfedgoaaDoor
open Go.RowKit

/-- Bytes that can be read. -/
def RdBy (w : World) (A : Option Addr) (n : Nat) : Prop := 0 < n → ∃ g off, A = some ⟨g, off, none⟩ ∧ ∀ i : Nat, i < n → ∃ x : Int, 0 ≤ x ∧ x ≤ 255 ∧ w.cell? ⟨g, off + i, none⟩ = some (.int .u8 x)

/-- A cursor in block g, at a place of the bytes. -/
def CurAt (w : World) (g : Nat) (A : Option Addr) (n c : Nat) (p : Nat) : Prop :=
  ∃ s : Int, (0 ≤ s ∧ s < 18446744073709551616) ∧ w.cell? ⟨g, 0, none⟩ = some (.slice A n c) ∧ (w.cell? ⟨g, 1, none⟩ = some (.int .i64 p) ∧ w.frozen? ⟨g, 1, none⟩ = false) ∧ (w.cell? ⟨g, 2, none⟩ = some (.int .u64 s) ∧ w.frozen? ⟨g, 2, none⟩ = false)

/-- Something drawn: a number from lo to hi, the cursor one or more places on; only its block is written. -/
def DrawPost (lo hi : Int) (g : Nat) (A : Option Addr) (n c p k : Nat) (w : World) (e : Ending) (w' : World) : Prop :=
  ∃ x : Int, e = .returned (.int .i64 x) ∧ lo ≤ x ∧ x ≤ hi ∧ (∃ p', p' ≤ p + k ∧ CurAt w' g A n c p') ∧ w.grownBy w' (some g)

theorem u64_bd (x : Int) : 0 ≤ IntKind.u64.wrap x ∧ IntKind.u64.wrap x < 18446744073709551616 := by
  have := wf_wrap .u64 x
  exact ⟨(bounds_u64 this).1, by have := (bounds_u64 this).2; omega⟩

theorem low_bd {S : Int} (SB : 0 ≤ S ∧ S < 18446744073709551616) : 0 ≤ wrap64 (bits BinOp.and IntKind.u64 (S / 1099511627776) 255) ∧ wrap64 (bits BinOp.and IntKind.u64 (S / 1099511627776) 255) ≤ 255 := by
  obtain ⟨a, ha⟩ : ∃ a : Nat, (a : Int) = S / 1099511627776 := ⟨(S / 1099511627776).toNat, by omega⟩
  rw [← ha, show (255 : Int) = ((255 : Nat) : Int) from rfl, bits_and_u64_nat a 255 (by omega) (by omega)]
  have h := Nat.and_le_right (n := a) (m := 255)
  have e : wrap64 ((a &&& 255 : Nat) : Int) = ((a &&& 255 : Nat) : Int) := by
    unfold wrap64
    omega
  rw [e]
  omega
theorem grown_drewN {w w' : World} {row : Option Nat} (h : w.grownBy w' row) (n : Nat) : w.grownBy (w'.drewN n) row := ⟨h.os, h.tape, h.output, h.size, h.block⟩
theorem grown_store {w w' : World} {g : Nat} (h : w.grownBy w' (some g)) (j : Nat) (u : Value) : w.grownBy (w'.setCell ⟨g, j, none⟩ u) (some g) := h.trans (grown_set w' g j u)

theorem cur_stored {w : World} {g : Nat} {A : Option Addr} {n c p : Nat} {s S : Int} (SB : 0 ≤ S ∧ S < 18446744073709551616) (c0 : w.cell? ⟨g, 0, none⟩ = some (.slice A n c)) (c1 : w.cell? ⟨g, 1, none⟩ = some (.int .i64 p)) (f1 : w.frozen? ⟨g, 1, none⟩ = false) (c2 : w.cell? ⟨g, 2, none⟩ = some (.int .u64 s)) (f2 : w.frozen? ⟨g, 2, none⟩ = false) (N : Nat) :
    CurAt (((w.drewN N).setCell ⟨g, 1, none⟩ (.int .i64 ((p : Int) + 1))).setCell ⟨g, 2, none⟩ (.int .u64 S)) g A n c (p + 1) ∧ w.grownBy (((w.drewN N).setCell ⟨g, 1, none⟩ (.int .i64 ((p : Int) + 1))).setCell ⟨g, 2, none⟩ (.int .u64 S)) (some g) :=
  ⟨⟨S, SB, by simp [go_sem, *], ⟨by simp [go_sem, *], by simp [go_sem, *]⟩, ⟨by simp [go_sem, *], by simp [go_sem, *]⟩⟩, grown_store (grown_store (grown_drewN (World.grownBy.refl w _) N) _ _) _ _⟩

set_option maxHeartbeats 1000000 in
theorem next_any (g : Nat) (A : Option Addr) (n c p : Nat) (w : World) (h : CurAt w g A n c p) (hb : RdBy w A n) (hp : p ≤ 100000) (hn : n ≤ 9223372036854775807) :
    Calls Tryd.prog 39 #[.pointer (some ⟨g, 0, none⟩)] w (DrawPost 0 255 g A n c p 1 w) := by
  obtain ⟨s, ⟨s0, s1⟩, c0, ⟨c1, f1⟩, ⟨c2, f2⟩⟩ := h
  by_cases hlt : p < n
  · obtain ⟨gb, ob, rfl, hx⟩ := hb (by omega)
    obtain ⟨x, x0, x1, cx⟩ := hx p hlt
    have hlt' : (p : Int) < n := by omega
    have hle : (p : Int) + 1 ≤ n := by omega
    clear hb hx
    go_enter Tryd.func39, Tryd.ntmps39
    go_wp2_with fail
    go_quiet (fail)
    go_wp2_with fail
    go_quiet (fail)
    go_wp2_with fail
    generalize hS : IntKind.u64.wrap (IntKind.u64.wrap (IntKind.u64.wrap (s * 6364136223846793005) + x) + 1442695040888963407) = S
    have SB : 0 ≤ S ∧ S < 18446744073709551616 := by rw [← hS]; exact u64_bd _
    clear hS
    go_quiet (fail)
    go_wp2_with fail
    go_ret
    exact ⟨x, rfl, x0, x1, ⟨p + 1, Nat.le_refl _, (cur_stored SB c0 c1 f1 c2 f2 _).1⟩, grown_drewN (cur_stored SB c0 c1 f1 c2 f2 _).2 _⟩
  · have hge : decide ((p : Int) < n) = false := by simp; omega
    have hge2 : decide ((p : Int) + 1 ≤ n) = false := by simp; omega
    go_enter Tryd.func39, Tryd.ntmps39
    go_wp2_with fail
    go_quiet (fail)
    go_wp2_with fail
    generalize hS : IntKind.u64.wrap (IntKind.u64.wrap (IntKind.u64.wrap (s * 6364136223846793005)) + 1442695040888963407) = S
    have SB : 0 ≤ S ∧ S < 18446744073709551616 := by rw [← hS]; exact u64_bd _
    clear hS
    go_quiet (fail)
    go_wp2_with fail
    go_ret
    exact ⟨_, rfl, (low_bd SB).1, (low_bd SB).2, ⟨p + 1, Nat.le_refl _, (cur_stored SB c0 c1 f1 c2 f2 _).1⟩, grown_drewN (cur_stored SB c0 c1 f1 c2 f2 _).2 _⟩


theorem RdBy.grown {w w' : World} {g : Nat} {A : Option Addr} {n : Nat} (h : RdBy w A n) (hg : w.grownBy w' (some g)) (hne : 0 < n → ∀ a, A = some a → a.block ≠ g) : RdBy w' A n := fun h0 => by
  obtain ⟨gb, ob, rfl, hx⟩ := h h0
  refine ⟨gb, ob, rfl, fun i hi => ?_⟩
  obtain ⟨x, x0, x1, cx⟩ := hx i hi
  exact ⟨x, x0, x1, hg.cell cx (fun e => hne h0 _ rfl (Option.some.inj e))⟩
theorem RdBy.keep {w w' : World} {A : Option Addr} {n : Nat} (h : RdBy w A n) (hk : Kp w w') : RdBy w' A n := fun h0 => by
  obtain ⟨gb, ob, rfl, hx⟩ := h h0
  refine ⟨gb, ob, rfl, fun i hi => ?_⟩
  obtain ⟨x, x0, x1, cx⟩ := hx i hi
  exact ⟨x, x0, x1, hk.cell cx⟩

theorem pick_any (g : Nat) (A : Option Addr) (n c p : Nat) (m : Int) (w : World) (h : CurAt w g A n c p) (hb : RdBy w A n) (hp : p ≤ 99990) (hn : n ≤ 9223372036854775807) (m1 : 2 ≤ m) (m2 : m ≤ 200) :
    Calls Tryd.prog 19 #[.pointer (some ⟨g, 0, none⟩), .int .i64 m] w (DrawPost 0 (m - 1) g A n c p 1 w) := by
  have C := next_any g A n c p w h hb (by omega) hn
  unfold DrawPost at C
  have HC := Lib.hid C
  have hm0 : m ≠ 0 := by omega
  clear C h hb
  go_enter Tryd.func19, Tryd.ntmps19
  go_wp2_with fail
  refine HC.out.mono ?_
  rintro e w1 ⟨x, rfl, x0, x1, hcur, hg⟩
  have HG := Lib.hid (And.intro hcur hg)
  have hb : 0 ≤ x % m ∧ x % m ≤ m - 1 := ⟨Int.emod_nonneg _ (by omega), by have := Int.emod_lt_of_pos x (show 0 < m by omega); omega⟩
  clear hcur hg
  go_wp2_with fail
  go_ret
  exact ⟨_, rfl, hb.1, hb.2, HG.out.1, HG.out.2⟩

/-- A bool drawn. -/
def OnePost (g : Nat) (A : Option Addr) (n c p k : Nat) (w : World) (e : Ending) (w' : World) : Prop :=
  ∃ b : Bool, e = .returned (.bool b) ∧ (∃ p', p' ≤ p + k ∧ CurAt w' g A n c p') ∧ w.grownBy w' (some g)
theorem one_any (g : Nat) (A : Option Addr) (n c p : Nat) (m : Int) (w : World) (h : CurAt w g A n c p) (hb : RdBy w A n) (hp : p ≤ 99990) (hn : n ≤ 9223372036854775807) (m1 : 2 ≤ m) (m2 : m ≤ 200) :
    Calls Tryd.prog 38 #[.pointer (some ⟨g, 0, none⟩), .int .i64 m] w (OnePost g A n c p 1 w) := by
  have C := pick_any g A n c p m w h hb hp hn m1 m2
  unfold DrawPost at C
  have HC := Lib.hid C
  clear C h hb
  go_enter Tryd.func38, Tryd.ntmps38
  go_wp2_with fail
  refine HC.out.mono ?_
  rintro e w1 ⟨x, rfl, x0, x1, hcur, hg⟩
  have HG := Lib.hid (And.intro hcur hg)
  clear hcur hg
  go_wp2_with fail
  go_ret
  exact ⟨_, rfl, HG.out.1, HG.out.2⟩

theorem among_any (g : Nat) (A : Option Addr) (n c p : Nat) (gl ol ln cl : Nat) (lo hi : Int) (w : World) (h : CurAt w g A n c p) (hb : RdBy w A n) (hp : p ≤ 99990) (hn : n ≤ 9223372036854775807) (l1 : 2 ≤ ln) (l2 : ln ≤ 200)
    (hl : ∀ i : Nat, i < ln → ∃ x : Int, lo ≤ x ∧ x ≤ hi ∧ w.cell? ⟨gl, ol + i, none⟩ = some (.int .i64 x)) (hne : gl ≠ g) :
    Calls Tryd.prog 32 #[.pointer (some ⟨g, 0, none⟩), .slice (some ⟨gl, ol, none⟩) ln cl] w (DrawPost lo hi g A n c p 1 w) := by
  have C := pick_any g A n c p ln w h hb hp hn (by omega) (by omega)
  unfold DrawPost at C
  have HC := Lib.hid C
  have HL := Lib.hid hl
  clear C h hb hl
  go_enter Tryd.func32, Tryd.ntmps32
  go_wp2_with fail
  refine HC.out.mono ?_
  rintro e w1 ⟨x, rfl, x0, x1, hcur, hg⟩
  obtain ⟨k, rfl⟩ := Int.eq_ofNat_of_zero_le x0
  obtain ⟨y, y0, y1, cy⟩ := HL.out k (by omega)
  have cy' := hg.cell cy (fun e => hne (Option.some.inj e))
  have hk : (k : Int) < ln := by omega
  have HG := Lib.hid (And.intro hcur hg)
  clear hcur hg cy
  go_wp2_with fail
  go_ret
  exact ⟨_, rfl, y0, y1, HG.out.1, HG.out.2⟩

end Go.Proofs.YtmodcmkmfedgoaaDoor
