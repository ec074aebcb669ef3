/-
  Texts of this seat in one module: DrS, DrL.
-/
import Derived.Deep.Cut
import Derived.OwnWalk
import Derived.Maps.AppendAt
import Derived.Deep.CutRange
import Derived.Deep.RegionHeld
import Derived.Test.YtbohefollbmhkaaGreatDoorQb
import Derived.Test.YtbohefollbmhkaaGreatDoorQc
import Derived.Test.YtbohefollbmhkaaGreatDoorQh
import Derived.Test.YtbohefollbmhkaaGreatDoorQk
import Derived.Test.YtbohefollbmhkaaGreatDoorQr

/-
  The reference's draws of sums, lists and labels: what they give are numbers, a list, a short text; all that was there is as it was.
-/
namespace Go.Proofs.YtbohefollbmhkaaGreatDoor
open Go.RowKit

/-- Texts in cells, each short. -/
def TxtAt (w : World) (gl n : Nat) : Prop := ∀ i : Nat, i < n → ∃ s : ByteArray, s.size ≤ 100 ∧ w.cell? ⟨gl, i, none⟩ = some (.string s)
theorem ofC (base g K : Nat) (gl ln cl : Nat) (w : World) (h : Cu w base g K) (hK : K ≤ 90000) (l1 : 2 ≤ ln) (l2 : ln ≤ 200) (hl : TxtAt w gl ln) (hne : gl ≠ g) :
    Calls Tryz.prog 50 #[.pointer (some ⟨g, 0, none⟩), .slice (some ⟨gl, 0, none⟩) ln cl] w fun e w' => ∃ s : ByteArray, e = .returned (.string s) ∧ s.size ≤ 100 ∧ Cu w' base g (K + 1) ∧ w.grownBy w' (some g) := by
  have C := pickC base g K ln w h hK (by omega) (by omega)
  unfold PickC at C
  have HC := Lib.hid C
  have HL := Lib.hid hl
  clear C h hl
  go_enter Tryz.func50, Tryz.ntmps50
  go_wp2_with fail
  refine HC.out.mono ?_
  rintro e w1 ⟨x, rfl, x0, x1, hcu, hg⟩
  obtain ⟨k, rfl⟩ := Int.eq_ofNat_of_zero_le x0
  obtain ⟨s, hs, cy⟩ := HL.out k (by omega)
  have cy' := hg.cell cy (fun e => hne (Option.some.inj e))
  have hk : (k : Int) < ln := by omega
  have HG := Lib.hid (And.intro hcu hg)
  clear hcu hg cy
  go_wp2_with fail
  go_ret
  exact ⟨s, rfl, hs, HG.out.1, HG.out.2⟩

end Go.Proofs.YtbohefollbmhkaaGreatDoor

/-
  The reference's draws of seals and openings: what they give are numbers and short texts; all that was there is as it was.
-/
namespace Go.Proofs.YtbohefollbmhkaaGreatDoor
open Go.RowKit

/-- The cursor, and that behind w0 all is as it was but its block. -/
def Cg (w0 W : World) (base g K : Nat) : Prop := Cu W base g K ∧ w0.grownBy W (some g)
theorem Cg.le {w0 W : World} {base g K K' : Nat} (h : Cg w0 W base g K) (hK : K ≤ K') : Cg w0 W base g K' := ⟨h.1.le hK, h.2⟩
theorem Cg.draw {w0 W W' : World} {base g K K' : Nat} (h : Cg w0 W base g K) (c : Cu W' base g K') (k : W.grownBy W' (some g)) : Cg w0 W' base g K' := ⟨c, h.2.trans k⟩
theorem Cg.alloc {w0 W : World} {base g K : Nat} (h : Cg w0 W base g K) (o : Obj) : Cg w0 (W.alloc o) base g K := ⟨h.1.keep ((Kp.refl _).alloc _), h.2.trans (World.grownBy_alloc _ _ _)⟩
theorem Cg.drew {w0 W : World} {base g K : Nat} (h : Cg w0 W base g K) : Cg w0 W.drew base g K := ⟨h.1.keep (Kp.refl W).drew, ⟨h.2.os, h.2.tape, h.2.output, h.2.size, h.2.block⟩⟩
theorem Cg.set {w0 W : World} {base g K b : Nat} (h : Cg w0 W base g K) (h1 : base ≤ b) (h2 : w0.heap.size ≤ b) (j : Nat) (u : Value) : Cg w0 (W.setCell ⟨b, j, none⟩ u) base g K :=
  ⟨h.1.own (grown_set W b j u) (fun r e => by have := Option.some.inj e; omega), gw_own h.2 (grown_set W b j u) (fun r e => by have := Option.some.inj e; omega)⟩
theorem Cg.own {w0 W W' : World} {base g K : Nat} {row : Option Nat} (h : Cg w0 W base g K) (k : W.grownBy W' row) (h1 : ∀ r, row = some r → base ≤ r) (h2 : ∀ r, row = some r → w0.heap.size ≤ r) : Cg w0 W' base g K :=
  ⟨h.1.own k h1, gw_own h.2 k h2⟩
theorem Bx3.draw {W W' : World} {b g : Nat} {x y z : Int} (h : Bx3 W b x y z) (k : W.grownBy W' (some g)) (hne : b ≠ g) : Bx3 W' b x y z := by
  have ne : some b ≠ some g := fun e => hne (Option.some.inj e)
  exact ⟨⟨k.cell h.1.1 ne, k.cell h.1.2.1 ne, k.cell h.1.2.2 ne⟩, grown_frozen k h.1.1 ne h.2.1, grown_frozen k h.1.2.1 ne h.2.2.1, grown_frozen k h.1.2.2 ne h.2.2.2⟩
theorem Bx3.far {W : World} {b q j : Nat} {x y z : Int} (h : Bx3 W b x y z) (hne : b ≠ q) (u : Value) : Bx3 (W.setCell ⟨q, j, none⟩ u) b x y z := by
  obtain ⟨⟨c0, c1, c2⟩, f0, f1, f2⟩ := h
  have hne2 : ¬ q = b := fun e => hne e.symm
  exact ⟨⟨by simp [go_sem, *], by simp [go_sem, *], by simp [go_sem, *]⟩, by simp [go_sem, *], by simp [go_sem, *], by simp [go_sem, *]⟩
/-- A box of an opening that may be written. -/
def Bxo (W : World) (g : Nat) (n : Int) (s : ByteArray) : Prop := (W.cell? ⟨g, 0, none⟩ = some (.int .i64 n) ∧ W.cell? ⟨g, 1, none⟩ = some (.string s)) ∧ W.frozen? ⟨g, 0, none⟩ = false ∧ W.frozen? ⟨g, 1, none⟩ = false
theorem Bxo.keep {W W' : World} {g : Nat} {n : Int} {s : ByteArray} (h : Bxo W g n s) (k : Kp W W') : Bxo W' g n s := by
  have hlt : g < W.heap.size := cell_lt h.1.1
  exact ⟨⟨k.cell h.1.1, k.cell h.1.2⟩, (k.cells.2 g 0 hlt).trans h.2.1, (k.cells.2 g 1 hlt).trans h.2.2⟩
theorem Bxo.draw {W W' : World} {b g : Nat} {n : Int} {s : ByteArray} (h : Bxo W b n s) (k : W.grownBy W' (some g)) (hne : b ≠ g) : Bxo W' b n s := by
  have ne : some b ≠ some g := fun e => hne (Option.some.inj e)
  exact ⟨⟨k.cell h.1.1 ne, k.cell h.1.2 ne⟩, grown_frozen k h.1.1 ne h.2.1, grown_frozen k h.1.2 ne h.2.2⟩
theorem Bxo.new (w : World) (n : Int) (s : ByteArray) (t : TypeId) : Bxo (w.alloc (.cells #[.int .i64 n, .string s] t)) w.heap.size n s :=
  ⟨⟨by simp [go_sem], by simp [go_sem]⟩, by simp [go_sem], by simp [go_sem]⟩
theorem Bxo.far {W : World} {b q j : Nat} {n : Int} {s : ByteArray} (h : Bxo W b n s) (hne : b ≠ q) (u : Value) : Bxo (W.setCell ⟨q, j, none⟩ u) b n s := by
  obtain ⟨⟨c0, c1⟩, f0, f1⟩ := h
  have hne2 : ¬ q = b := fun e => hne e.symm
  exact ⟨⟨by simp [go_sem, *], by simp [go_sem, *]⟩, by simp [go_sem, *], by simp [go_sem, *]⟩
theorem Bxo.set1 {W : World} {b : Nat} {n : Int} {s : ByteArray} (h : Bxo W b n s) (u : ByteArray) : Bxo (W.setCell ⟨b, 1, none⟩ (.string u)) b n u := by
  obtain ⟨⟨c0, c1⟩, f0, f1⟩ := h
  exact ⟨⟨by simp [go_sem, *], by simp [go_sem, *]⟩, by simp [go_sem, *], by simp [go_sem, *]⟩
def sizeAt (W : World) (b : Nat) : Nat := match W.cell? ⟨b, 1, none⟩ with | some (.string s) => s.size | _ => 0
theorem sizeAt_box {W : World} {b : Nat} {n : Int} {s : ByteArray} (h : Bxo W b n s) : sizeAt W b = s.size := by
  unfold sizeAt
  rw [h.1.2]
set_option maxRecDepth 100000 in
set_option maxHeartbeats 8000000 in
theorem sealedC (base g K : Nat) (w : World) (h : Cu w base g K) (hK : K ≤ 60000) (hb : base ≤ w.heap.size) :
    Calls Tryz.prog 21 #[.pointer (some ⟨g, 0, none⟩)] w fun e w' => ∃ t s x : Int, e = .returned (slx t s x) ∧ Cg w w' base g (K + 12) := by
  have hgb := h.lt
  have P1 := Lib.hid (fun w hc => pickC base g K 12 w hc (by omega) (by omega) (by omega))
  have P2 := Lib.hid (fun w hc => pickC base g (K + 1) 2 w hc (by omega) (by omega) (by omega))
  have P3 := Lib.hid (fun w hc => seedC base g (K + 2) w hc (by omega))
  have P4 := Lib.hid (fun w hc => pickC base g (K + 5) 24 w hc (by omega) (by omega) (by omega))
  have A1 := Lib.hid (fun (w : World) (hc : Cu w base g (K + 6)) (hg : g < w.heap.size) => amongC base g (K + 6) w.heap.size 0 3 3 (-1) 31 (w.alloc (.cells #[.int .i64 (-1), .int .i64 30, .int .i64 31] 3)) (hc.keep ((Kp.refl _).alloc _)) (by omega) (by omega) (by omega) (fun i hi => by rcases (show i = 0 ∨ i = 1 ∨ i = 2 by omega) with rfl | rfl | rfl; exact ⟨(-1), by omega, by omega, by simp [go_sem]⟩; exact ⟨30, by omega, by omega, by simp [go_sem]⟩; exact ⟨31, by omega, by omega, by simp [go_sem]⟩) (by omega))
  have A2 := Lib.hid (fun (w : World) (hc : Cu w base g (K + 6)) (hg : g < w.heap.size) => amongC base g (K + 6) w.heap.size 0 2 2 (-1) 2 (w.alloc (.cells #[.int .i64 (-1), .int .i64 2] 3)) (hc.keep ((Kp.refl _).alloc _)) (by omega) (by omega) (by omega) (fun i hi => by rcases (show i = 0 ∨ i = 1 by omega) with rfl | rfl; exact ⟨(-1), by omega, by omega, by simp [go_sem]⟩; exact ⟨2, by omega, by omega, by simp [go_sem]⟩) (by omega))
  have A3 := Lib.hid (fun w hc => anySeedC base g (K + 6) w hc (by omega))
  unfold PickC at P1 P2 P4 A1 A2
  unfold NumC at P3 A3
  have T0 : Bx3 (w.alloc (.cells #[.int .i64 0, .int .i64 0, .int .i64 0] 29)) w.heap.size 0 0 0 := Bx3.new w 0 0 0 29
  have C0 : Cg w (w.alloc (.cells #[.int .i64 0, .int .i64 0, .int .i64 0] 29)) base g K := (show Cg w w base g K from ⟨h, World.grownBy.refl w _⟩).alloc _
  have hN : w.heap.size ≠ g := by omega
  clear h
  go_enter Tryz.func21, Tryz.ntmps21
  go_wp2_with fail
  generalize (w.alloc (.cells #[.int .i64 0, .int .i64 0, .int .i64 0] 29)) = W0 at *
  refine (P1.out _ C0.1).mono ?_
  rintro e1 w1 ⟨x1, rfl, -, -, cu1, gg1⟩
  have T1 := T0.draw gg1 hN
  have C1 := C0.draw cu1 gg1
  clear T0 C0 cu1
  go_wp2_with fail
  refine (P2.out _ C1.1).mono ?_
  rintro e2 w2 ⟨x2, rfl, -, -, cu2, gg2⟩
  have T2 := T1.draw gg2 hN
  have C2 := C1.draw cu2 gg2
  clear T1 C1 cu2
  go_wp2_with fail
  refine (P3.out _ C2.1).mono ?_
  rintro e3 w3 ⟨x3, rfl, cu3, gg3⟩
  have T3 := T2.draw gg3 hN
  have C3 := C2.draw cu3 gg3
  clear T2 C2 cu3
  have kz : Kp w3 (w3.alloc (.cells #[.int .i64 x1, .int .i64 x2, .int .i64 x3] 29)) := (Kp.refl w3).alloc _
  have B4 : Bx3 (w3.alloc (.cells #[.int .i64 x1, .int .i64 x2, .int .i64 x3] 29)) w3.heap.size x1 x2 x3 := Bx3.new w3 x1 x2 x3 29
  have T4 := T3.keep kz
  have C4 := C3.alloc (.cells #[.int .i64 x1, .int .i64 x2, .int .i64 x3] 29)
  have hsz : w.heap.size < w3.heap.size := by have := cell_lt T3.1.1; omega
  have hM : w3.heap.size ≠ g := by omega
  have hMN : w.heap.size ≠ w3.heap.size := by omega
  have hM1 : base ≤ w3.heap.size := by omega
  have hM2 : w.heap.size ≤ w3.heap.size := by omega
  generalize hM3 : w3.heap.size = M at *
  clear T3 C3 kz
  go_wp2_with fail
  generalize w3.alloc (.cells #[.int .i64 x1, .int .i64 x2, .int .i64 x3] 29) = w4 at *
  refine (P4.out _ C4.1).mono ?_
  rintro e5 w5 ⟨y, rfl, y0, y1, cu5, gg5⟩
  have T5 := T4.draw gg5 hN
  have B5 := B4.draw gg5 hM
  have C5 := C4.draw cu5 gg5
  have hgw : g < w5.heap.size := by have := cell_lt B5.1.1; omega
  clear T4 B4 C4 cu5
  by_cases h0 : y = 0
  · subst h0
    go_wp2_with fail
    have T6 := T5.keep ((Kp.refl w5).alloc (.cells #[.int .i64 (-1), .int .i64 30, .int .i64 31] 3))
    have B6 := B5.keep ((Kp.refl w5).alloc (.cells #[.int .i64 (-1), .int .i64 30, .int .i64 31] 3))
    have C6 := C5.alloc (.cells #[.int .i64 (-1), .int .i64 30, .int .i64 31] 3)
    refine (A1.out w5 (C5.1.le (by omega)) hgw).mono ?_
    rintro e7 w7 ⟨z, rfl, -, -, cu7, gg7⟩
    have T7 := T6.draw gg7 hN
    have B7 := B6.draw gg7 hM
    have C7 := C6.draw cu7 gg7
    clear T5 B5 C5 T6 B6 C6 cu7
    obtain ⟨⟨c0, c1, c2⟩, f0, f1, f2⟩ := T7
    obtain ⟨⟨b0, b1, b2⟩, h0, h1, h2⟩ := B7
    have hNM : ¬ M = w.heap.size := fun e => hMN e.symm
    go_wp2_with fail
    exact bodyPost_ret (v := slx z x2 x3) (by simp [results, Tryz.results21, go_sem, *]) rfl ⟨_, _, _, rfl, ((((C7.set hM1 hM2 _ _).set hb (Nat.le_refl _) _ _).set hb (Nat.le_refl _) _ _).set hb (Nat.le_refl _) _ _).le (by omega)⟩
  · by_cases h1 : y = 1
    · subst h1
      go_wp2_with fail
      have T6 := T5.keep ((Kp.refl w5).alloc (.cells #[.int .i64 (-1), .int .i64 2] 3))
      have B6 := B5.keep ((Kp.refl w5).alloc (.cells #[.int .i64 (-1), .int .i64 2] 3))
      have C6 := C5.alloc (.cells #[.int .i64 (-1), .int .i64 2] 3)
      refine (A2.out w5 (C5.1.le (by omega)) hgw).mono ?_
      rintro e7 w7 ⟨z, rfl, -, -, cu7, gg7⟩
      have T7 := T6.draw gg7 hN
      have B7 := B6.draw gg7 hM
      have C7 := C6.draw cu7 gg7
      clear T5 B5 C5 T6 B6 C6 cu7
      obtain ⟨⟨c0, c1, c2⟩, f0, f1, f2⟩ := T7
      obtain ⟨⟨b0, b1, b2⟩, h0, h1, h2⟩ := B7
      have hNM : ¬ M = w.heap.size := fun e => hMN e.symm
      go_wp2_with fail
      exact bodyPost_ret (v := slx x1 z x3) (by simp [results, Tryz.results21, go_sem, *]) rfl ⟨_, _, _, rfl, ((((C7.set hM1 hM2 _ _).set hb (Nat.le_refl _) _ _).set hb (Nat.le_refl _) _ _).set hb (Nat.le_refl _) _ _).le (by omega)⟩
    · have e0 : (y == 0) = false := by simpa using h0
      have e1 : (y == 1) = false := by simpa using h1
      by_cases h2 : y = 2
      · subst h2
        go_wp2_with fail
        refine (A3.out _ (C5.1.le (by omega))).mono ?_
        rintro e7 w7 ⟨z, rfl, cu7, gg7⟩
        have T7 := T5.draw gg7 hN
        have B7 := B5.draw gg7 hM
        have C7 := C5.draw cu7 gg7
        clear T5 B5 C5 cu7
        obtain ⟨⟨c0, c1, c2⟩, f0, f1, f2⟩ := T7
        obtain ⟨⟨b0, b1, b2⟩, h0, h1, h2⟩ := B7
        have hNM : ¬ M = w.heap.size := fun e => hMN e.symm
        go_wp2_with fail
        exact bodyPost_ret (v := slx x1 x2 z) (by simp [results, Tryz.results21, go_sem, *]) rfl ⟨_, _, _, rfl, ((((C7.set hM1 hM2 _ _).set hb (Nat.le_refl _) _ _).set hb (Nat.le_refl _) _ _).set hb (Nat.le_refl _) _ _).le (by omega)⟩
      · have e2 : (y == 2) = false := by simpa using h2
        obtain ⟨⟨c0, c1, c2⟩, f0, f1, f2⟩ := T5
        obtain ⟨⟨b0, b1, b2⟩, h0, h1, h2⟩ := B5
        have hNM : ¬ M = w.heap.size := fun e => hMN e.symm
        go_wp2_with fail
        exact bodyPost_ret (v := slx x1 x2 x3) (by simp [results, Tryz.results21, go_sem, *]) rfl ⟨_, _, _, rfl, (((C5.set hb (Nat.le_refl _) _ _).set hb (Nat.le_refl _) _ _).set hb (Nat.le_refl _) _ _).le (by omega)⟩

set_option maxRecDepth 100000 in
set_option maxHeartbeats 8000000 in
theorem openingC (base g K : Nat) (w : World) (h : Cu w base g K) (hK : K ≤ 60000) (hb : base ≤ w.heap.size) :
    Calls Tryz.prog 22 #[.pointer (some ⟨g, 0, none⟩)] w fun e w' => ∃ (n : Int) (s : ByteArray), e = .returned (opx n s) ∧ s.size ≤ 151 ∧ Cg w w' base g (K + 12) := by
  have hgb := h.lt
  have P1 := Lib.hid (fun w hc => seedC base g K w hc (by omega))
  have A0 := Lib.hid (fun (w : World) (hc : Cu w base g (K + 3)) (hg : g < w.heap.size) => ofC base g (K + 3) w.heap.size 4 4 (w.alloc (.cells #[(.string ⟨#[]⟩), (.string ⟨#[109, 111, 118, 101, 32, 48, 32, 49, 50]⟩), (.string ⟨#[104, 111, 108, 100]⟩), (.string ⟨#[97, 116, 116, 97, 99, 107, 32, 51]⟩)] 9)) (hc.keep ((Kp.refl _).alloc _)) (by omega) (by omega) (by omega) (fun i hi => by rcases (show i = 0 ∨ i = 1 ∨ i = 2 ∨ i = 3 by omega) with rfl | rfl | rfl | rfl; exact ⟨⟨#[]⟩, by decide, by simp [go_sem]⟩; exact ⟨⟨#[109, 111, 118, 101, 32, 48, 32, 49, 50]⟩, by decide, by simp [go_sem]⟩; exact ⟨⟨#[104, 111, 108, 100]⟩, by decide, by simp [go_sem]⟩; exact ⟨⟨#[97, 116, 116, 97, 99, 107, 32, 51]⟩, by decide, by simp [go_sem]⟩) (by omega))
  have P2 := Lib.hid (fun w hc => pickC base g (K + 4) 24 w hc (by omega) (by omega) (by omega))
  have A1 := Lib.hid (fun w hc => anySeedC base g (K + 5) w hc (by omega))
  have P3 := Lib.hid (fun w hc => pickC base g (K + 5) 2 w hc (by omega) (by omega) (by omega))
  unfold PickC at P2 P3
  unfold NumC at P1 A1
  have T0 : Bxo (w.alloc (.cells #[.int .i64 0, .string ⟨#[]⟩] 25)) w.heap.size 0 ⟨#[]⟩ := Bxo.new w 0 ⟨#[]⟩ 25
  have C0 : Cg w (w.alloc (.cells #[.int .i64 0, .string ⟨#[]⟩] 25)) base g K := (show Cg w w base g K from ⟨h, World.grownBy.refl w _⟩).alloc _
  have hN : w.heap.size ≠ g := by omega
  clear h
  go_enter Tryz.func22, Tryz.ntmps22
  go_wp2_with fail
  generalize (w.alloc (.cells #[.int .i64 0, .string ⟨#[]⟩] 25)) = W0 at *
  refine (P1.out _ C0.1).mono ?_
  rintro e1 w1 ⟨x1, rfl, cu1, gg1⟩
  have T1 := T0.draw gg1 hN
  have C1 := C0.draw cu1 gg1
  clear T0 C0 cu1
  have hg1 : g < w1.heap.size := by have := cell_lt T1.1.1; omega
  have T2a := T1.keep ((Kp.refl w1).alloc (.cells #[(.string ⟨#[]⟩), (.string ⟨#[109, 111, 118, 101, 32, 48, 32, 49, 50]⟩), (.string ⟨#[104, 111, 108, 100]⟩), (.string ⟨#[97, 116, 116, 97, 99, 107, 32, 51]⟩)] 9))
  have C2a := C1.alloc (.cells #[(.string ⟨#[]⟩), (.string ⟨#[109, 111, 118, 101, 32, 48, 32, 49, 50]⟩), (.string ⟨#[104, 111, 108, 100]⟩), (.string ⟨#[97, 116, 116, 97, 99, 107, 32, 51]⟩)] 9)
  have HA := Lib.hid (A0.out w1 (C1.1.le (by omega)) hg1)
  clear T1 C1 A0
  go_wp2_with fail
  refine HA.out.mono ?_
  clear HA
  rintro e2 w2 ⟨s2, rfl, hs2, cu2, gg2⟩
  have T2 := T2a.draw gg2 hN
  have C2 := C2a.draw cu2 gg2
  clear T2a C2a cu2 gg2
  have kz : Kp w2 (w2.alloc (.cells #[.int .i64 x1, .string s2] 25)) := (Kp.refl w2).alloc _
  have B4 : Bxo (w2.alloc (.cells #[.int .i64 x1, .string s2] 25)) w2.heap.size x1 s2 := Bxo.new w2 x1 s2 25
  have T4 := T2.keep kz
  have C4 := C2.alloc (.cells #[.int .i64 x1, .string s2] 25)
  have hsz : w.heap.size < w2.heap.size := by have := cell_lt T2.1.1; omega
  have hM : w2.heap.size ≠ g := by omega
  have hMN : w.heap.size ≠ w2.heap.size := by omega
  have hM1 : base ≤ w2.heap.size := by omega
  have hM2 : w.heap.size ≤ w2.heap.size := by omega
  generalize hM3 : w2.heap.size = M at *
  clear T2 C2 kz
  go_wp2_with fail
  generalize w2.alloc (.cells #[.int .i64 x1, .string s2] 25) = w4 at *
  refine (P2.out _ C4.1).mono ?_
  rintro e5 w5 ⟨y, rfl, y0, y1, cu5, gg5⟩
  have T5 := T4.draw gg5 hN
  have B5 := B4.draw gg5 hM
  have C5 := C4.draw cu5 gg5
  clear T4 B4 C4 cu5
  by_cases h0 : y = 0
  · subst h0
    go_wp2_with fail
    refine (A1.out _ (C5.1.le (by omega))).mono ?_
    rintro e7 w7 ⟨z, rfl, cu7, gg7⟩
    have T7 := T5.draw gg7 hN
    have B7 := B5.draw gg7 hM
    have C7 := C5.draw cu7 gg7
    clear T5 B5 C5 cu7
    obtain ⟨⟨c0, c1⟩, f0, f1⟩ := T7
    obtain ⟨⟨b0, b1⟩, h0, h1⟩ := B7
    have hNM : ¬ M = w.heap.size := fun e => hMN e.symm
    go_wp2_with fail
    exact bodyPost_ret (v := opx z s2) (by simp [results, Tryz.results22, go_sem, *]) rfl ⟨_, _, rfl, by omega, (((C7.set hM1 hM2 _ _).set hb (Nat.le_refl _) _ _).set hb (Nat.le_refl _) _ _).le (by omega)⟩
  · have e0 : (y == 0) = false := by simpa using h0
    by_cases h1 : y = 1
    · subst h1
      go_wp2_with fail
      refine (P3.out _ (C5.1.le (by omega))).mono ?_
      rintro e7 w7 ⟨z, rfl, z0, z1, cu7, gg7⟩
      have T7 := T5.draw gg7 hN
      have B7 := B5.draw gg7 hM
      have C7 := C5.draw cu7 gg7
      have ez : IntKind.i64.wrap (150 + z) = 150 + z := IntWalk.i64_in _ (by omega)
      clear T5 B5 C5 cu7
      go_wp2_with fail
      go_loopw [] (fun wr => ∃ s : ByteArray, s.size ≤ 151 ∧ Hid (Bxo wr M x1 s) ∧ Hid (Bxo wr w.heap.size 0 ⟨#[]⟩) ∧ Hid (Cg w wr base g (K + 6))) (fun wr => 151 - sizeAt wr M)
      case atStart => exact ⟨s2, by omega, Lib.hid B7, Lib.hid T7, Lib.hid (C7.le (by omega))⟩
      case round =>
        clear T7 B7 C7
        obtain ⟨s, hs, hB, hT, hC⟩ := hrel
        obtain ⟨⟨b0, b1⟩, h0, h1⟩ := id hB.out
        have hsA := sizeAt_box hB.out
        by_cases hlt : (s.size : Int) < 150 + z
        · have e9 : s.size + (⟨#[120]⟩ : ByteArray).size = s.size + 1 := rfl
          have e10 : ¬ 9223372036854775807 < s.size + (⟨#[120]⟩ : ByteArray).size := by rw [e9]; omega
          have e11 : (s ++ (⟨#[120]⟩ : ByteArray)).size = s.size + 1 := by rw [ByteArray.size_append]; rfl
          have hB1 := hB.out.set1 (s ++ ⟨#[120]⟩)
          have hT1 := hT.out.far (q := M) (j := 1) hMN (.string (s ++ ⟨#[120]⟩))
          have hC1 := hC.out.set hM1 hM2 1 (.string (s ++ ⟨#[120]⟩))
          have hsB := sizeAt_box hB1
          go_wp2_with fail
          go_roundw
          case rel => exact ⟨_, by rw [e11]; omega, Lib.hid hB1, Lib.hid hT1, Lib.hid hC1⟩
          case measure => rw [hsB, hsA, e11]; omega
        · obtain ⟨⟨c0, c1⟩, f0, f1⟩ := id hT.out
          have hNM : ¬ M = w.heap.size := fun e => hMN e.symm
          go_wp2_with fail
          exact bodyPost_ret (v := opx x1 s) (by simp [results, Tryz.results22, go_sem, *]) rfl ⟨_, _, rfl, by omega, ((hC.out.set hb (Nat.le_refl _) _ _).set hb (Nat.le_refl _) _ _).le (by omega)⟩
    · have e1 : (y == 1) = false := by simpa using h1
      obtain ⟨⟨c0, c1⟩, f0, f1⟩ := T5
      obtain ⟨⟨b0, b1⟩, h0, h1⟩ := B5
      have hNM : ¬ M = w.heap.size := fun e => hMN e.symm
      go_wp2_with fail
      exact bodyPost_ret (v := opx x1 s2) (by simp [results, Tryz.results22, go_sem, *]) rfl ⟨_, _, rfl, by omega, ((C5.set hb (Nat.le_refl _) _ _).set hb (Nat.le_refl _) _ _).le (by omega)⟩

end Go.Proofs.YtbohefollbmhkaaGreatDoor
