/-
  The reference's draws of sums, lists and labels: what they give are numbers, a list, a short text; all that was there is as it was.
-/
import Derived.Test.YtmhkjcgdjoeldaaDoorDrN
import Derived.Test.YtmhkjcgdjoeldaaDoorListI
import Derived.Test.YtmhkjcgdjoeldaaDoorPutI
import Derived.Deep.Cut
import Derived.OwnWalk
import Derived.Maps.AppendAt
namespace Go.Proofs.YtmhkjcgdjoeldaaDoor
open Go.RowKit

set_option maxRecDepth 100000 in
set_option maxHeartbeats 4000000 in
theorem drawSumWays_any (A : Option Addr) (n c : Nat) (w : World) (hb : RdBy w A n) (hn : n ≤ 9223372036854775807) :
    Calls Tryd.prog 5 #[.slice A n c] w fun e w' => ∃ a b : Int, e = .returned (.tuple #[.int .i64 a, .int .i64 b]) ∧ Kp w w' := by
  have hlt := hb.lt
  obtain ⟨g, hg⟩ : ∃ g, g = w.heap.size := ⟨_, rfl⟩
  obtain ⟨base, hbase⟩ : ∃ b, b = w.heap.size + 1 := ⟨_, rfl⟩
  have k0 : Kp w (w.alloc (.cells #[.slice A n c, .int .i64 0, .int .u64 0] 37)) := (Kp.refl w).alloc _
  have c0 : Hid (Cu (w.alloc (.cells #[.slice A n c, .int .i64 0, .int .u64 0] 37)) base g 0) := Lib.hid (by
    refine ⟨A, n, c, 0, ?_, hb.keep k0, hn, by omega, by omega, fun h0 a ha => ⟨by have := hlt h0 a ha; omega, by have := hlt h0 a ha; omega⟩⟩
    rw [hg]
    exact ⟨0, by omega, by simp [go_sem], ⟨by simp [go_sem], by simp [go_sem]⟩, ⟨by simp [go_sem], by simp [go_sem]⟩⟩)
  have K0 := Lib.hid k0
  have hsz : g < (w.alloc (.cells #[.slice A n c, .int .i64 0, .int .u64 0] 37)).heap.size := by simp; omega
  have hsz1 : (w.alloc (.cells #[.slice A n c, .int .i64 0, .int .u64 0] 37)).heap.size = base := by simp; omega
  have HSZ := Lib.hid hsz1
  have HGW := Lib.hid hg
  have HBW := Lib.hid hbase
  have C0 := Lib.hid (fun w hc => pickC base g 0 10 w hc (by omega) (by omega) (by omega))
  unfold PickC at C0
  have C1 := Lib.hid (fun w hc => pickC base g 1 20 w hc (by omega) (by omega) (by omega))
  unfold PickC at C1
  have C2 := Lib.hid (fun (w : World) (hc : Cu w base g 2) (hg : g < w.heap.size) (m : Int) (m1 : -1 ≤ m) (m2 : m ≤ 9) => amongC base g 2 w.heap.size 0 10 10 (-100) 200 (w.alloc (.cells #[.int .i64 0, .int .i64 1, .int .i64 (2 * m), .int .i64 7, .int .i64 (3 * m + 1), .int .i64 (6 * m), .int .i64 (6 * m + 1), .int .i64 (-1), .int .i64 100, .int .i64 101] 3)) (hc.keep ((Kp.refl _).alloc _)) (by omega) (by omega) (by omega) (fun i hi => by rcases (show i = 0 ∨ i = 1 ∨ i = 2 ∨ i = 3 ∨ i = 4 ∨ i = 5 ∨ i = 6 ∨ i = 7 ∨ i = 8 ∨ i = 9 by omega) with rfl | rfl | rfl | rfl | rfl | rfl | rfl | rfl | rfl | rfl; exact ⟨0, by omega, by omega, by simp [go_sem]⟩; exact ⟨1, by omega, by omega, by simp [go_sem]⟩; exact ⟨(2 * m), by omega, by omega, by simp [go_sem]⟩; exact ⟨7, by omega, by omega, by simp [go_sem]⟩; exact ⟨(3 * m + 1), by omega, by omega, by simp [go_sem]⟩; exact ⟨(6 * m), by omega, by omega, by simp [go_sem]⟩; exact ⟨(6 * m + 1), by omega, by omega, by simp [go_sem]⟩; exact ⟨(-1), by omega, by omega, by simp [go_sem]⟩; exact ⟨100, by omega, by omega, by simp [go_sem]⟩; exact ⟨101, by omega, by omega, by simp [go_sem]⟩) (by omega))
  unfold PickC at C2
  clear hb hlt k0 hbase hsz1
  go_enter Tryd.func5, Tryd.ntmps5
  go_upto_region 2 with fail
  rw [← hg]
  clear hg
  generalize w.alloc (.cells #[.slice A n c, .int .i64 0, .int .u64 0] 37) = W0 at *
  go_wp2_with fail
  refine (C0.out _ c0.out).mono ?_
  rintro e0 w0 ⟨x0, rfl, l0, u0, cu0, g0⟩
  have D0 := Lib.hid cu0
  have G0 := Lib.hid (g0)
  clear cu0 g0
  go_wp2_with fail
  refine (C1.out _ D0.out).mono ?_
  rintro e1 w1 ⟨x1, rfl, l1, u1, cu1, g1⟩
  have D1 := Lib.hid cu1
  have G1 := Lib.hid (G0.out.trans (g1))
  clear cu1 g1
  have hq : 0 ≤ x1.tdiv 19 ∧ x1.tdiv 19 ≤ 1 := by
    rw [Int.tdiv_eq_ediv_of_nonneg l1]
    omega
  obtain ⟨m, hm⟩ : ∃ m, m = x0 - x1.tdiv 19 := ⟨_, rfl⟩
  have m1 : -1 ≤ m := by omega
  have m2 : m ≤ 9 := by omega
  have e0 : IntKind.i64.wrap (x0 - x1.tdiv 19) = m := by rw [hm]; exact IntWalk.i64_in _ (by omega)
  have e1 : IntKind.i64.wrap (2 * m) = 2 * m := IntWalk.i64_in _ (by omega)
  have e2 : IntKind.i64.wrap (3 * m) = 3 * m := IntWalk.i64_in _ (by omega)
  have e3 : IntKind.i64.wrap (3 * m + 1) = 3 * m + 1 := IntWalk.i64_in _ (by omega)
  have e4 : IntKind.i64.wrap (6 * m) = 6 * m := IntWalk.i64_in _ (by omega)
  have e5 : IntKind.i64.wrap (6 * m + 1) = 6 * m + 1 := IntWalk.i64_in _ (by omega)
  have S1 : g < w1.heap.size := Nat.lt_of_lt_of_le hsz G1.out.size
  have HM := Lib.hid hm
  clear hm
  go_wp2_with fail
  refine (C2.out _ D1.out S1 m m1 m2).mono ?_
  rintro e9 w9 ⟨x9, rfl, l9, u9, cu9, g9⟩
  have G9 := Lib.hid (G1.out.trans ((World.grownBy_alloc _ _ _).trans g9))
  clear cu9 g9
  go_wp2_with fail
  go_ret2
  exact ⟨_, _, rfl, K0.out.grown G9.out (fun k e => by have := Option.some.inj e; have := HGW.out; omega)⟩

set_option maxRecDepth 100000 in
set_option maxHeartbeats 4000000 in
theorem drawGreatestOf_any (A : Option Addr) (n c : Nat) (w : World) (hb : RdBy w A n) (hn : n ≤ 9223372036854775807) :
    Calls Tryd.prog 10 #[.slice A n c] w fun e w' => ∃ a b : Int, e = .returned (.tuple #[.int .i64 a, .int .i64 b]) ∧ Kp w w' := by
  have hlt := hb.lt
  obtain ⟨g, hg⟩ : ∃ g, g = w.heap.size := ⟨_, rfl⟩
  obtain ⟨base, hbase⟩ : ∃ b, b = w.heap.size + 1 := ⟨_, rfl⟩
  have k0 : Kp w (w.alloc (.cells #[.slice A n c, .int .i64 0, .int .u64 0] 37)) := (Kp.refl w).alloc _
  have c0 : Hid (Cu (w.alloc (.cells #[.slice A n c, .int .i64 0, .int .u64 0] 37)) base g 0) := Lib.hid (by
    refine ⟨A, n, c, 0, ?_, hb.keep k0, hn, by omega, by omega, fun h0 a ha => ⟨by have := hlt h0 a ha; omega, by have := hlt h0 a ha; omega⟩⟩
    rw [hg]
    exact ⟨0, by omega, by simp [go_sem], ⟨by simp [go_sem], by simp [go_sem]⟩, ⟨by simp [go_sem], by simp [go_sem]⟩⟩)
  have K0 := Lib.hid k0
  have hsz : g < (w.alloc (.cells #[.slice A n c, .int .i64 0, .int .u64 0] 37)).heap.size := by simp; omega
  have hsz1 : (w.alloc (.cells #[.slice A n c, .int .i64 0, .int .u64 0] 37)).heap.size = base := by simp; omega
  have HSZ := Lib.hid hsz1
  have HGW := Lib.hid hg
  have HBW := Lib.hid hbase
  have C0 := Lib.hid (fun w hc => pickC base g 0 10 w hc (by omega) (by omega) (by omega))
  unfold PickC at C0
  have C1 := Lib.hid (fun w hc => pickC base g 1 8 w hc (by omega) (by omega) (by omega))
  unfold PickC at C1
  clear hb hlt k0 hbase hsz1
  go_enter Tryd.func10, Tryd.ntmps10
  go_upto_region 2 with fail
  rw [← hg]
  clear hg
  generalize w.alloc (.cells #[.slice A n c, .int .i64 0, .int .u64 0] 37) = W0 at *
  go_wp2_with fail
  refine (C0.out _ c0.out).mono ?_
  rintro e0 w0 ⟨x0, rfl, l0, u0, cu0, g0⟩
  have D0 := Lib.hid cu0
  have G0 := Lib.hid (g0)
  clear cu0 g0
  go_wp2_with fail
  refine (C1.out _ D0.out).mono ?_
  rintro e1 w1 ⟨x1, rfl, l1, u1, cu1, g1⟩
  have D1 := Lib.hid cu1
  have G1 := Lib.hid (G0.out.trans (g1))
  clear cu1 g1
  go_wp2_with fail
  go_ret2
  exact ⟨_, _, rfl, K0.out.grown G1.out (fun k e => by have := Option.some.inj e; have := HGW.out; omega)⟩

/-- Texts in cells, each short. -/
def TxtAt (w : World) (gl n : Nat) : Prop := ∀ i : Nat, i < n → ∃ s : ByteArray, s.size ≤ 100 ∧ w.cell? ⟨gl, i, none⟩ = some (.string s)
theorem ofC (base g K : Nat) (gl ln cl : Nat) (w : World) (h : Cu w base g K) (hK : K ≤ 90000) (l1 : 2 ≤ ln) (l2 : ln ≤ 200) (hl : TxtAt w gl ln) (hne : gl ≠ g) :
    Calls Tryd.prog 31 #[.pointer (some ⟨g, 0, none⟩), .slice (some ⟨gl, 0, none⟩) ln cl] w fun e w' => ∃ s : ByteArray, e = .returned (.string s) ∧ s.size ≤ 100 ∧ Cu w' base g (K + 1) ∧ w.grownBy w' (some g) := by
  have C := pickC base g K ln w h hK (by omega) (by omega)
  unfold PickC at C
  have HC := Lib.hid C
  have HL := Lib.hid hl
  clear C h hl
  go_enter Tryd.func31, Tryd.ntmps31
  go_wp2_with fail
  refine HC.out.mono ?_
  rintro e w1 ⟨x, rfl, x0, x1, hcu, hg⟩
  obtain ⟨k, rfl⟩ := Int.eq_ofNat_of_zero_le x0
  obtain ⟨s, hs, cy⟩ := HL.out k (by omega)
  have cy' := hg.cell cy (fun e => hne (Option.some.inj e))
  have hk : (k : Int) < ln := by omega
  have HG := Lib.hid (And.intro hcu hg)
  clear hcu hg cy
  go_wp2_with fail
  go_ret
  exact ⟨s, rfl, hs, HG.out.1, HG.out.2⟩

set_option maxRecDepth 100000 in
set_option maxHeartbeats 4000000 in
theorem drawChildSeed_any (A : Option Addr) (n c : Nat) (w : World) (hb : RdBy w A n) (hn : n ≤ 9223372036854775807) :
    Calls Tryd.prog 16 #[.slice A n c] w fun e w' => ∃ (a : Int) (s : ByteArray), e = .returned (.tuple #[.int .i64 a, .string s]) ∧ s.size ≤ 100 ∧ Kp w w' := by
  have hlt := hb.lt
  obtain ⟨g, hg⟩ : ∃ g, g = w.heap.size := ⟨_, rfl⟩
  obtain ⟨base, hbase⟩ : ∃ b, b = w.heap.size + 1 := ⟨_, rfl⟩
  have k0 : Kp w (w.alloc (.cells #[.slice A n c, .int .i64 0, .int .u64 0] 37)) := (Kp.refl w).alloc _
  have c0 : Hid (Cu (w.alloc (.cells #[.slice A n c, .int .i64 0, .int .u64 0] 37)) base g 0) := Lib.hid (by
    refine ⟨A, n, c, 0, ?_, hb.keep k0, hn, by omega, by omega, fun h0 a ha => ⟨by have := hlt h0 a ha; omega, by have := hlt h0 a ha; omega⟩⟩
    rw [hg]
    exact ⟨0, by omega, by simp [go_sem], ⟨by simp [go_sem], by simp [go_sem]⟩, ⟨by simp [go_sem], by simp [go_sem]⟩⟩)
  have K0 := Lib.hid k0
  have hsz : g < (w.alloc (.cells #[.slice A n c, .int .i64 0, .int .u64 0] 37)).heap.size := by simp; omega
  have hsz1 : (w.alloc (.cells #[.slice A n c, .int .i64 0, .int .u64 0] 37)).heap.size = base := by simp; omega
  have HSZ := Lib.hid hsz1
  have HGW := Lib.hid hg
  have HBW := Lib.hid hbase
  have C0 := Lib.hid (fun w hc => anySeedC base g 0 w hc (by omega))
  unfold NumC at C0
  have C1 := Lib.hid (fun (w : World) (hc : Cu w base g 4) (hg : g < w.heap.size) => ofC base g 4 w.heap.size 5 5 (w.alloc (.cells #[(.string ⟨#[]⟩), (.string ⟨#[100, 105, 99, 101]⟩), (.string ⟨#[119, 101, 97, 116, 104, 101, 114]⟩), (.string ⟨#[48, 49, 50, 51, 52, 53, 54, 55, 56, 57, 48, 49, 50, 51, 52, 53, 54, 55, 56, 57, 48, 49, 50, 51, 52, 53, 54, 55, 56, 57, 48, 49, 50, 51, 52, 53, 54, 55, 56, 57]⟩), (.string ⟨#[48, 49, 50, 51, 52, 53, 54, 55, 56, 57, 48, 49, 50, 51, 52, 53, 54, 55, 56, 57, 48, 49, 50, 51, 52, 53, 54, 55, 56, 57, 48, 49, 50, 51, 52, 53, 54, 55, 56, 57, 48]⟩)] 9)) (hc.keep ((Kp.refl _).alloc _)) (by omega) (by omega) (by omega) (fun i hi => by rcases (show i = 0 ∨ i = 1 ∨ i = 2 ∨ i = 3 ∨ i = 4 by omega) with rfl | rfl | rfl | rfl | rfl; exact ⟨⟨#[]⟩, by decide, by simp [go_sem]⟩; exact ⟨⟨#[100, 105, 99, 101]⟩, by decide, by simp [go_sem]⟩; exact ⟨⟨#[119, 101, 97, 116, 104, 101, 114]⟩, by decide, by simp [go_sem]⟩; exact ⟨⟨#[48, 49, 50, 51, 52, 53, 54, 55, 56, 57, 48, 49, 50, 51, 52, 53, 54, 55, 56, 57, 48, 49, 50, 51, 52, 53, 54, 55, 56, 57, 48, 49, 50, 51, 52, 53, 54, 55, 56, 57]⟩, by decide, by simp [go_sem]⟩; exact ⟨⟨#[48, 49, 50, 51, 52, 53, 54, 55, 56, 57, 48, 49, 50, 51, 52, 53, 54, 55, 56, 57, 48, 49, 50, 51, 52, 53, 54, 55, 56, 57, 48, 49, 50, 51, 52, 53, 54, 55, 56, 57, 48]⟩, by decide, by simp [go_sem]⟩) (by omega))
  clear hb hlt k0 hbase hsz1
  go_enter Tryd.func16, Tryd.ntmps16
  go_upto_region 2 with fail
  rw [← hg]
  clear hg
  generalize w.alloc (.cells #[.slice A n c, .int .i64 0, .int .u64 0] 37) = W0 at *
  go_wp2_with fail
  refine (C0.out _ c0.out).mono ?_
  rintro e0 w0 ⟨x0, rfl, cu0, g0⟩
  have D0 := Lib.hid cu0
  have G0 := Lib.hid (g0)
  clear cu0 g0
  have S0 : g < w0.heap.size := Nat.lt_of_lt_of_le hsz G0.out.size
  go_wp2_with fail
  refine (C1.out _ D0.out S0).mono ?_
  rintro e9 w9 ⟨s9, rfl, l9, cu9, g9⟩
  have G9 := Lib.hid (G0.out.trans ((World.grownBy_alloc _ _ _).trans g9))
  clear cu9 g9
  go_wp2_with fail
  go_ret2
  exact ⟨_, _, rfl, l9, K0.out.grown G9.out (fun k e => by have := Option.some.inj e; have := HGW.out; omega)⟩

set_option maxRecDepth 100000 in
set_option maxHeartbeats 4000000 in
theorem drawMixNumbers_any (A : Option Addr) (n c : Nat) (w : World) (hb : RdBy w A n) (hn : n ≤ 9223372036854775807) :
    Calls Tryd.prog 13 #[.slice A n c] w fun e w' => ∃ (v : Value) (l : List Int), e = .returned v ∧ RdI w' v l ∧ l.length ≤ 300 ∧ Kp w w' := by
  have hlt := hb.lt
  obtain ⟨g, hg⟩ : ∃ g, g = w.heap.size := ⟨_, rfl⟩
  obtain ⟨base, hbase⟩ : ∃ b, b = w.heap.size + 1 := ⟨_, rfl⟩
  have k0 : Kp w (w.alloc (.cells #[.slice A n c, .int .i64 0, .int .u64 0] 37)) := (Kp.refl w).alloc _
  have c0 : Hid (Cu (w.alloc (.cells #[.slice A n c, .int .i64 0, .int .u64 0] 37)) base g 0) := Lib.hid (by
    refine ⟨A, n, c, 0, ?_, hb.keep k0, hn, by omega, by omega, fun h0 a ha => ⟨by have := hlt h0 a ha; omega, by have := hlt h0 a ha; omega⟩⟩
    rw [hg]
    exact ⟨0, by omega, by simp [go_sem], ⟨by simp [go_sem], by simp [go_sem]⟩, ⟨by simp [go_sem], by simp [go_sem]⟩⟩)
  have K0 := Lib.hid k0
  have hsz : g < (w.alloc (.cells #[.slice A n c, .int .i64 0, .int .u64 0] 37)).heap.size := by simp; omega
  have hsz1 : (w.alloc (.cells #[.slice A n c, .int .i64 0, .int .u64 0] 37)).heap.size = base := by simp; omega
  have HSZ := Lib.hid hsz1
  have HGW := Lib.hid hg
  have HBW := Lib.hid hbase
  obtain ⟨j0, hj0, hz0, hs0, hb0⟩ := info_parts infoInt
  have C0 := Lib.hid (fun w hc => pickC base g 0 6 w hc (by omega) (by omega) (by omega))
  unfold PickC at C0
  have C1 := Lib.hid (fun w k (hk : k ≤ 10) hc => pickW base g (1 + 2 * k) 60000 w hc (by omega) (by omega) (by omega))
  unfold NumC at C1
  have C2 := Lib.hid (fun w hc => pickC base g 11 24 w hc (by omega) (by omega) (by omega))
  unfold PickC at C2
  have C3 := Lib.hid (fun w hc => pickC base g 12 2 w hc (by omega) (by omega) (by omega))
  unfold PickC at C3
  have C4 := Lib.hid (fun (w : World) (hc : Cu w base g 12) (hg : g < w.heap.size) => amongC base g 12 w.heap.size 0 2 2 (-9223372036854775808) 9223372036854775807 (w.alloc (.cells #[.int .i64 (-9223372036854775808), .int .i64 9223372036854775807] 3)) (hc.keep ((Kp.refl _).alloc _)) (by omega) (by omega) (by omega) (fun i hi => by rcases (show i = 0 ∨ i = 1 by omega) with rfl | rfl; exact ⟨(-9223372036854775808), by omega, by omega, by simp [go_sem]⟩; exact ⟨9223372036854775807, by omega, by omega, by simp [go_sem]⟩) (by omega))
  unfold PickC at C4
  clear hb hlt k0 hbase hsz1
  go_enter Tryd.func13, Tryd.ntmps13
  go_upto_region 2 with fail
  rw [← hg]
  clear hg
  generalize w.alloc (.cells #[.slice A n c, .int .i64 0, .int .u64 0] 37) = W0 at *
  go_wp2_with fail
  refine (C0.out _ c0.out).mono ?_
  rintro e0 w0 ⟨x0, rfl, l0, u0, cu0, g0⟩
  have D0 := Lib.hid cu0
  have G0 := Lib.hid (g0)
  clear cu0 g0
  obtain ⟨N, rfl⟩ : ∃ N : Nat, x0 = N := ⟨x0.toNat, by omega⟩
  have hN5 : N ≤ 5 := by omega
  go_wp2_with fail
  go_loopw [4, 5] (fun v iv wr => ∃ (k : Nat) (l : List Int), k ≤ N ∧ iv = .int .i64 ((N : Int) - k) ∧ l.length = k ∧ Hid (OwnI wr base v l) ∧ Hid (Cu wr base g (1 + 2 * k)) ∧ Hid (W0.grownBy wr (some g))) (fun _ iv _ => (intOf iv).toNat)
  case atStart => exact ⟨0, [], by omega, by simp, rfl, Lib.hid (OwnI.nil _ _), Lib.hid (D0.out.le (by omega)), G0⟩
  case round =>
    clear D0 G0
    obtain ⟨k, l, hk, rfl, hl, hO, hC, hG⟩ := hrel
    by_cases hlt : k < N
    · have hlt' : 0 < (N : Int) - k := by omega
      have hbw : base ≤ wr.heap.size := by rw [← HSZ.out]; exact hG.out.size
      go_wp2_with fail
      refine (C1.out _ k (by omega) hC.out).mono ?_
      rintro e1 w1 ⟨x1, rfl, cu1, g1⟩
      have HC1 := Lib.hid cu1
      have HO1 := Lib.hid (hO.out.draw g1 hC.out.lt)
      have HG1 := Lib.hid (hG.out.trans g1)
      have hbw1 : base ≤ w1.heap.size := Nat.le_trans hbw g1.size
      obtain ⟨z, hz⟩ : ∃ z, IntKind.i64.wrap (x1 - 30000) = z := ⟨_, rfl⟩
      clear cu1 g1 hO hC hG
      go_wp2_with (at_builtin; refine wpList_append_own_at _ rfl (.tmp 15) (.tmp 19) 28 rfl base 3 j0 (.int .i64 0) 1 8 Tryd.underlying28 hj0 hz0 hs0 hb0 rfl (by decide) _ l.length (cellsI l) rfl (World.ownsRow.alloc HO1.out _) ⟨w1.heap.size, 0, none⟩ 1 1 [.int .i64 z] rfl rfl (one_cell _ _ _) (by simp [Value.oneCell']) (by simp only [maxLen]; omega) (by omega) (by simp; omega) ?_; intro v' w3 hown2 hgrow2 hnil2 hat2; clear hnil2 hat2; have O3 := Lib.hid (OwnI.snoc hown2); have HG3 := Lib.hid hgrow2; clear hown2 hgrow2)
      have hO3 : Hid (OwnI w3 base v' (l ++ [z])) := O3
      have hC3 : Hid (Cu w3 base g (1 + 2 * (k + 1))) := Lib.hid (((HC1.out.own (World.grownBy_alloc _ _ none) (fun r e => by cases e)).own HG3.out (fun r e => (World.ownsRow.lt HO1.out r e).1)).le (by omega))
      have hG3 : Hid (W0.grownBy w3 (some g)) := Lib.hid (gw_own (gw_own HG1.out (World.grownBy_alloc _ _ none) (fun r e => by cases e)) HG3.out (fun r e => by have := (World.ownsRow.lt HO1.out r e).1; rw [HSZ.out]; exact this))
      clear O3 HG3 HC1 HO1 HG1
      go_roundw
      case rel => exact ⟨k + 1, l ++ [z], by omega, by go_num, by simp [hl], hO3, hC3, hG3⟩
      case measure => simp [intOf]; omega
    · obtain rfl : k = N := by omega
      have hbw : base ≤ wr.heap.size := by rw [← HSZ.out]; exact hG.out.size
      go_wp2_with fail
      refine (C2.out _ (hC.out.le (by omega))).mono ?_
      rintro e2 w2 ⟨x2, rfl, l2, u2, cu2, g2⟩
      have HC2 := Lib.hid cu2
      have HO2 := Lib.hid (hO.out.draw g2 hC.out.lt)
      have HG2 := Lib.hid (hG.out.trans g2)
      have hbw2 : base ≤ w2.heap.size := Nat.le_trans hbw g2.size
      have S2 : g < w2.heap.size := Nat.lt_of_lt_of_le hsz HG2.out.size
      clear cu2 g2 hO hC hG
      by_cases h0 : x2 = 0
      · subst h0
        go_wp2_with fail
        refine (C3.out _ (HC2.out.le (by omega))).mono ?_
        rintro e3 w3 ⟨x3, rfl, l3, u3, cu3, g3⟩
        have HG3 := Lib.hid (HG2.out.trans g3)
        obtain ⟨M, hM⟩ : ∃ M : Nat, (M : Int) = 200 + x3 := ⟨(200 + x3).toNat, by omega⟩
        have eM : IntKind.i64.wrap (200 + x3) = (M : Int) := by rw [hM]; exact IntWalk.i64_in _ (by omega)
        have hmk := mkInts M (by omega) w3
        have HZ := Lib.hid (ownI_zero w3 M (by omega))
        have hM300 : M ≤ 300 := by omega
        clear cu3 g3 hM
        go_wp2_with fail
        go_ret
        exact ⟨_, _, rfl, HZ.out.rd, by rw [List.length_replicate]; omega, (K0.out.grown HG3.out (fun k e => by have := Option.some.inj e; have := HGW.out; omega)).alloc _⟩
      · have e0 : (x2 == 0) = false := by simpa using h0
        by_cases h1 : x2 = 1
        · subst h1
          go_wp2_with fail
          refine (C4.out _ (HC2.out.le (by omega)) S2).mono ?_
          rintro e3 w4 ⟨x3, rfl, l3, u3, cu3, g3⟩
          have g4 := (World.grownBy_alloc w2 (.cells #[.int .i64 (-9223372036854775808), .int .i64 9223372036854775807] 3) (some g)).trans g3
          have HO4 := Lib.hid (HO2.out.draw g4 HC2.out.lt)
          have HG4 := Lib.hid (HG2.out.trans g4)
          have hbw4 : base ≤ w4.heap.size := Nat.le_trans hbw2 g4.size
          clear cu3 g3 g4 HO2
          go_wp2_with (at_builtin; refine wpList_append_own_at _ rfl (.tmp 31) (.tmp 35) 28 rfl base 3 j0 (.int .i64 0) 1 8 Tryd.underlying28 hj0 hz0 hs0 hb0 rfl (by decide) _ l.length (cellsI l) rfl (World.ownsRow.alloc HO4.out _) ⟨w4.heap.size, 0, none⟩ 1 1 [.int .i64 x3] rfl rfl (one_cell _ _ _) (by simp [Value.oneCell']) (by simp only [maxLen]; omega) (by omega) (by simp; omega) ?_; intro v' w3 hown2 hgrow2 hnil2 hat2; clear hnil2 hat2; have O3 := Lib.hid (OwnI.snoc hown2); have HG3 := Lib.hid hgrow2; clear hown2 hgrow2)
          have HG5 : Hid (W0.grownBy w3 (some g)) := Lib.hid (gw_own (gw_own HG4.out (World.grownBy_alloc _ _ none) (fun r e => by cases e)) HG3.out (fun r e => by have := (World.ownsRow.lt HO4.out r e).1; rw [HSZ.out]; exact this))
          go_wp2_with fail
          go_ret
          exact ⟨_, _, rfl, O3.out.rd, by simp; omega, K0.out.grown HG5.out (fun k e => by have := Option.some.inj e; have := HGW.out; omega)⟩
        · have e1 : (x2 == 1) = false := by simpa using h1
          go_wp2_with fail
          go_ret
          exact ⟨_, l, rfl, HO2.out.rd, by omega, K0.out.grown HG2.out (fun k e => by have := Option.some.inj e; have := HGW.out; omega)⟩

end Go.Proofs.YtmhkjcgdjoeldaaDoor
