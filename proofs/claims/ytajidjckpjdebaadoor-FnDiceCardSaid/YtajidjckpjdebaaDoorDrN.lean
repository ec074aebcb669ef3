/-
  The reference's draws of seeds and numbers: what they give are numbers; all that was there is as it was.
-/
import Derived.Test.YtajidjckpjdebaaDoorCuB
import Derived.Deep.Cut
import Derived.OwnWalk
namespace Go.Proofs.YtajidjckpjdebaaDoor
open Go.RowKit

/-- A number drawn, the cursor at most at place K. -/
def NumC (base g K : Nat) (w : World) (e : Ending) (w' : World) : Prop :=
  ∃ x : Int, e = .returned (.int .i64 x) ∧ Cu w' base g K ∧ w.grownBy w' (some g)

theorem pickW (base g K : Nat) (m : Int) (w : World) (h : Cu w base g K) (hK : K ≤ 90000) (m1 : 201 ≤ m) (m2 : m ≤ 65536) :
    Calls Tryd.prog 22 #[.pointer (some ⟨g, 0, none⟩), .int .i64 m] w (NumC base g (K + 2) w) := by
  obtain ⟨A, n, c, p, h1, h2, h3, h4, h5, h6⟩ := h
  have C1 := Lib.hid (next_any g A n c p w h1 h2 (by omega) h3)
  have C2 := Lib.hid (fun w p' (hp : p' ≤ p + 1) h1 h2 => next_any g A n c p' w h1 h2 (by omega) h3)
  have H2 := Lib.hid h2
  have H6 := Lib.hid h6
  have hm0 : m ≠ 0 := by omega
  clear h1 h2 h6
  unfold DrawPost at C1 C2
  go_enter Tryd.func22, Tryd.ntmps22
  go_wp2_with fail
  refine C1.out.mono ?_
  rintro e1 w1 ⟨x, rfl, x0, x1, ⟨p1, hp1, cu1⟩, g1⟩
  have HR1 := Lib.hid (H2.out.grown g1 (fun h0 a ha => (H6.out h0 a ha).1))
  have HG1 := Lib.hid g1
  have HC1 := Lib.hid cu1
  clear g1 cu1
  go_wp2_with fail
  refine (C2.out _ p1 hp1 HC1.out HR1.out).mono ?_
  rintro e2 w2 ⟨y, rfl, y0, y1, ⟨p2, hp2, cu2⟩, g2⟩
  have HG2 := Lib.hid (And.intro cu2 g2)
  have hb : 0 ≤ (x * 256 + y) % m ∧ (x * 256 + y) % m ≤ m - 1 := ⟨Int.emod_nonneg _ (by omega), by have := Int.emod_lt_of_pos (x * 256 + y) (show 0 < m by omega); omega⟩
  clear cu2 g2
  go_wp2_with fail
  go_ret
  exact ⟨_, rfl, ⟨A, n, c, p2, HG2.out.1, HR1.out.grown HG2.out.2 (fun h0 a ha => (H6.out h0 a ha).1), h3, by omega, h5, H6.out⟩, HG1.out.trans HG2.out.2⟩

set_option maxRecDepth 100000 in
theorem seedC (base g K : Nat) (w : World) (h : Cu w base g K) (hK : K ≤ 80000) :
    Calls Tryd.prog 34 #[.pointer (some ⟨g, 0, none⟩)] w (NumC base g (K + 3) w) := by
  have C1 := Lib.hid (pickC base g K 12 w h (by omega) (by omega) (by omega))
  have C2 := Lib.hid (fun w hc => pickW base g (K + 1) 60000 w hc (by omega) (by omega) (by omega))
  have CA := Lib.hid (fun (w : World) (hc : Cu w base g (K + 1)) (hg : g < w.heap.size) => amongC base g (K + 1) w.heap.size 0 2 2 (-1) 4611686016279904237 (w.alloc (.cells #[.int .i64 4611686016279904236, .int .i64 123456789012] 3)) (hc.keep ((Kp.refl _).alloc _)) (by omega) (by omega) (by omega) (fun i hi => by rcases (show i = 0 ∨ i = 1 by omega) with rfl | rfl; exact ⟨4611686016279904236, by omega, by omega, by simp [go_sem]⟩; exact ⟨123456789012, by omega, by omega, by simp [go_sem]⟩) (by omega))
  have hgs := h.lt
  unfold PickC at C1
  unfold PickC at CA
  unfold NumC at C2
  have hgw : g < w.heap.size := by
    obtain ⟨A, n, c, p, cu, _⟩ := h
    exact cu.lt
  clear h
  go_enter Tryd.func34, Tryd.ntmps34
  go_wp2_with fail
  refine C1.out.mono ?_
  rintro e1 w1 ⟨x, rfl, x0, x1, cu1, g1⟩
  have HC1 := Lib.hid cu1
  have HG1 := Lib.hid g1
  have hgw1 : g < w1.heap.size := Nat.lt_of_lt_of_le hgw g1.size
  clear cu1 g1 C1
  by_cases h0 : x = 0
  · subst h0
    go_wp2_with fail
    go_ret
    exact ⟨0, rfl, HC1.out.le (by omega), HG1.out⟩
  · by_cases h1 : x = 1
    · subst h1
      go_wp2_with fail
      refine (CA.out w1 HC1.out hgw1).mono ?_
      rintro e2 w2 ⟨y, rfl, y0, y1, cu2, g2⟩
      have HC2 := Lib.hid cu2
      have HG2 := Lib.hid ((HG1.out.trans ((World.grownBy_alloc _ _ _))).trans g2)
      clear cu2 g2
      go_wp2_with fail
      go_ret
      exact ⟨y, rfl, HC2.out.le (by omega), HG2.out⟩
    · have e0 : (x == 0) = false := by simpa using h0
      have e1 : (x == 1) = false := by simpa using h1
      go_wp2_with fail
      refine (C2.out _ HC1.out).mono ?_
      rintro e2 w2 ⟨y, rfl, cu2, g2⟩
      have HC2 := Lib.hid cu2
      have HG2 := Lib.hid (HG1.out.trans g2)
      clear cu2 g2
      go_wp2_with fail
      go_ret
      exact ⟨y, rfl, HC2.out.le (by omega), HG2.out⟩

set_option maxRecDepth 100000 in
theorem anySeedC (base g K : Nat) (w : World) (h : Cu w base g K) (hK : K ≤ 70000) :
    Calls Tryd.prog 20 #[.pointer (some ⟨g, 0, none⟩)] w (NumC base g (K + 4) w) := by
  have C1 := Lib.hid (oneC base g K 24 w h (by omega) (by omega) (by omega))
  have C2 := Lib.hid (fun w hc => seedC base g (K + 1) w hc (by omega))
  have CA := Lib.hid (fun (w : World) (hc : Cu w base g (K + 1)) (hg : g < w.heap.size) => amongC base g (K + 1) w.heap.size 0 2 2 (-1) 4611686016279904237 (w.alloc (.cells #[.int .i64 (-1), .int .i64 4611686016279904237] 3)) (hc.keep ((Kp.refl _).alloc _)) (by omega) (by omega) (by omega) (fun i hi => by rcases (show i = 0 ∨ i = 1 by omega) with rfl | rfl; exact ⟨(-1), by omega, by omega, by simp [go_sem]⟩; exact ⟨4611686016279904237, by omega, by omega, by simp [go_sem]⟩) (by omega))
  unfold OneC at C1
  unfold PickC at CA
  unfold NumC at C2
  have hgw : g < w.heap.size := by
    obtain ⟨A, n, c, p, cu, _⟩ := h
    exact cu.lt
  clear h
  go_enter Tryd.func20, Tryd.ntmps20
  go_wp2_with fail
  refine C1.out.mono ?_
  rintro e1 w1 ⟨b, rfl, cu1, g1⟩
  have HC1 := Lib.hid cu1
  have HG1 := Lib.hid g1
  have hgw1 : g < w1.heap.size := Nat.lt_of_lt_of_le hgw g1.size
  clear cu1 g1 C1
  cases b
  · go_wp2_with fail
    refine (C2.out _ HC1.out).mono ?_
    rintro e2 w2 ⟨y, rfl, cu2, g2⟩
    have HC2 := Lib.hid cu2
    have HG2 := Lib.hid (HG1.out.trans g2)
    clear cu2 g2
    go_wp2_with fail
    go_ret
    exact ⟨y, rfl, HC2.out.le (by omega), HG2.out⟩
  · go_wp2_with fail
    refine (CA.out w1 HC1.out hgw1).mono ?_
    rintro e2 w2 ⟨y, rfl, y0, y1, cu2, g2⟩
    have HC2 := Lib.hid cu2
    have HG2 := Lib.hid ((HG1.out.trans ((World.grownBy_alloc _ _ _))).trans g2)
    clear cu2 g2
    go_wp2_with fail
    go_ret
    exact ⟨y, rfl, HC2.out.le (by omega), HG2.out⟩

set_option maxRecDepth 100000 in
set_option maxHeartbeats 4000000 in
theorem drawDiceFrom_any (A : Option Addr) (n c : Nat) (w : World) (hb : RdBy w A n) (hn : n ≤ 9223372036854775807) :
    Calls Tryd.prog 5 #[.slice A n c] w fun e w' => ∃ a b c : Int, e = .returned (.tuple #[.int .i64 a, .int .i64 b, .int .i64 c]) ∧ Kp w w' := by
  have hlt := hb.lt
  obtain ⟨g, hg⟩ : ∃ g, g = w.heap.size := ⟨_, rfl⟩
  obtain ⟨base, hbase⟩ : ∃ b, b = w.heap.size + 1 := ⟨_, rfl⟩
  have k0 : Kp w (w.alloc (.cells #[.slice A n c, .int .i64 0, .int .u64 0] 41)) := (Kp.refl w).alloc _
  have c0 : Hid (Cu (w.alloc (.cells #[.slice A n c, .int .i64 0, .int .u64 0] 41)) base g 0) := Lib.hid (by
    refine ⟨A, n, c, 0, ?_, hb.keep k0, hn, by omega, by omega, fun h0 a ha => ⟨by have := hlt h0 a ha; omega, by have := hlt h0 a ha; omega⟩⟩
    rw [hg]
    exact ⟨0, by omega, by simp [go_sem], ⟨by simp [go_sem], by simp [go_sem]⟩, ⟨by simp [go_sem], by simp [go_sem]⟩⟩)
  have K0 := Lib.hid k0
  have hsz : g < (w.alloc (.cells #[.slice A n c, .int .i64 0, .int .u64 0] 41)).heap.size := by simp; omega
  have HGW := Lib.hid hg
  have C0 := Lib.hid (fun w hc => anySeedC base g 0 w hc (by omega))
  unfold NumC at C0
  have C1 := Lib.hid (fun (w : World) (hc : Cu w base g 4) (hg : g < w.heap.size) => amongC base g 4 w.heap.size 0 5 5 (-1) 4611686016279904237 (w.alloc (.cells #[.int .i64 0, .int .i64 3, .int .i64 999995, .int .i64 1000000, .int .i64 1000001] 3)) (hc.keep ((Kp.refl _).alloc _)) (by omega) (by omega) (by omega) (fun i hi => by rcases (show i = 0 ∨ i = 1 ∨ i = 2 ∨ i = 3 ∨ i = 4 by omega) with rfl | rfl | rfl | rfl | rfl; exact ⟨0, by omega, by omega, by simp [go_sem]⟩; exact ⟨3, by omega, by omega, by simp [go_sem]⟩; exact ⟨999995, by omega, by omega, by simp [go_sem]⟩; exact ⟨1000000, by omega, by omega, by simp [go_sem]⟩; exact ⟨1000001, by omega, by omega, by simp [go_sem]⟩) (by omega))
  unfold PickC at C1
  have C2 := Lib.hid (fun w hc => pickC base g 5 10 w hc (by omega) (by omega) (by omega))
  unfold PickC at C2
  have C3 := Lib.hid (fun w hc => pickC base g 6 20 w hc (by omega) (by omega) (by omega))
  unfold PickC at C3
  clear hb hlt k0 hbase
  go_enter Tryd.func5, Tryd.ntmps5
  go_upto_region 2 with fail
  rw [← hg]
  clear hg
  generalize w.alloc (.cells #[.slice A n c, .int .i64 0, .int .u64 0] 41) = W0 at *
  go_wp2_with fail
  refine (C0.out _ c0.out).mono ?_
  rintro e0 w0 ⟨x0, rfl, cu0, g0⟩
  have D0 := Lib.hid cu0
  have G0 := Lib.hid (g0)
  have S0 : g < w0.heap.size := Nat.lt_of_lt_of_le hsz (by have := (g0).size; exact this)
  clear cu0 g0
  go_wp2_with fail
  refine (C1.out _ D0.out S0).mono ?_
  rintro e1 w1 ⟨x1, rfl, l1, u1, cu1, g1⟩
  have D1 := Lib.hid cu1
  have G1 := Lib.hid (G0.out.trans (((World.grownBy_alloc _ _ _)).trans g1))
  have S1 : g < w1.heap.size := Nat.lt_of_lt_of_le S0 (by have := (((World.grownBy_alloc _ _ _)).trans g1).size; exact this)
  clear cu1 g1
  go_wp2_with fail
  refine (C2.out _ D1.out).mono ?_
  rintro e2 w2 ⟨x2, rfl, l2, u2, cu2, g2⟩
  have D2 := Lib.hid cu2
  have G2 := Lib.hid (G1.out.trans (g2))
  have S2 : g < w2.heap.size := Nat.lt_of_lt_of_le S1 (by have := (g2).size; exact this)
  clear cu2 g2
  go_wp2_with fail
  refine (C3.out _ D2.out).mono ?_
  rintro e3 w3 ⟨x3, rfl, l3, u3, cu3, g3⟩
  have D3 := Lib.hid cu3
  have G3 := Lib.hid (G2.out.trans (g3))
  have S3 : g < w3.heap.size := Nat.lt_of_lt_of_le S2 (by have := (g3).size; exact this)
  clear cu3 g3
  go_wp2_with fail
  go_ret3
  exact ⟨_, _, _, rfl, K0.out.grown G3.out (fun k e => by have := Option.some.inj e; have := HGW.out; omega)⟩

set_option maxRecDepth 100000 in
set_option maxHeartbeats 4000000 in
theorem drawShuffleBy_any (A : Option Addr) (n c : Nat) (w : World) (hb : RdBy w A n) (hn : n ≤ 9223372036854775807) :
    Calls Tryd.prog 10 #[.slice A n c] w fun e w' => ∃ a b : Int, e = .returned (.tuple #[.int .i64 a, .int .i64 b]) ∧ Kp w w' := by
  have hlt := hb.lt
  obtain ⟨g, hg⟩ : ∃ g, g = w.heap.size := ⟨_, rfl⟩
  obtain ⟨base, hbase⟩ : ∃ b, b = w.heap.size + 1 := ⟨_, rfl⟩
  have k0 : Kp w (w.alloc (.cells #[.slice A n c, .int .i64 0, .int .u64 0] 41)) := (Kp.refl w).alloc _
  have c0 : Hid (Cu (w.alloc (.cells #[.slice A n c, .int .i64 0, .int .u64 0] 41)) base g 0) := Lib.hid (by
    refine ⟨A, n, c, 0, ?_, hb.keep k0, hn, by omega, by omega, fun h0 a ha => ⟨by have := hlt h0 a ha; omega, by have := hlt h0 a ha; omega⟩⟩
    rw [hg]
    exact ⟨0, by omega, by simp [go_sem], ⟨by simp [go_sem], by simp [go_sem]⟩, ⟨by simp [go_sem], by simp [go_sem]⟩⟩)
  have K0 := Lib.hid k0
  have hsz : g < (w.alloc (.cells #[.slice A n c, .int .i64 0, .int .u64 0] 41)).heap.size := by simp; omega
  have HGW := Lib.hid hg
  have C0 := Lib.hid (fun w hc => anySeedC base g 0 w hc (by omega))
  unfold NumC at C0
  have C1 := Lib.hid (fun (w : World) (hc : Cu w base g 4) (hg : g < w.heap.size) => amongC base g 4 w.heap.size 0 9 9 (-1) 4611686016279904237 (w.alloc (.cells #[.int .i64 0, .int .i64 1, .int .i64 2, .int .i64 3, .int .i64 7, .int .i64 12, .int .i64 40, .int .i64 41, .int .i64 (-1)] 3)) (hc.keep ((Kp.refl _).alloc _)) (by omega) (by omega) (by omega) (fun i hi => by rcases (show i = 0 ∨ i = 1 ∨ i = 2 ∨ i = 3 ∨ i = 4 ∨ i = 5 ∨ i = 6 ∨ i = 7 ∨ i = 8 by omega) with rfl | rfl | rfl | rfl | rfl | rfl | rfl | rfl | rfl; exact ⟨0, by omega, by omega, by simp [go_sem]⟩; exact ⟨1, by omega, by omega, by simp [go_sem]⟩; exact ⟨2, by omega, by omega, by simp [go_sem]⟩; exact ⟨3, by omega, by omega, by simp [go_sem]⟩; exact ⟨7, by omega, by omega, by simp [go_sem]⟩; exact ⟨12, by omega, by omega, by simp [go_sem]⟩; exact ⟨40, by omega, by omega, by simp [go_sem]⟩; exact ⟨41, by omega, by omega, by simp [go_sem]⟩; exact ⟨(-1), by omega, by omega, by simp [go_sem]⟩) (by omega))
  unfold PickC at C1
  clear hb hlt k0 hbase
  go_enter Tryd.func10, Tryd.ntmps10
  go_upto_region 2 with fail
  rw [← hg]
  clear hg
  generalize w.alloc (.cells #[.slice A n c, .int .i64 0, .int .u64 0] 41) = W0 at *
  go_wp2_with fail
  refine (C0.out _ c0.out).mono ?_
  rintro e0 w0 ⟨x0, rfl, cu0, g0⟩
  have D0 := Lib.hid cu0
  have G0 := Lib.hid (g0)
  have S0 : g < w0.heap.size := Nat.lt_of_lt_of_le hsz (by have := (g0).size; exact this)
  clear cu0 g0
  go_wp2_with fail
  refine (C1.out _ D0.out S0).mono ?_
  rintro e1 w1 ⟨x1, rfl, l1, u1, cu1, g1⟩
  have D1 := Lib.hid cu1
  have G1 := Lib.hid (G0.out.trans (((World.grownBy_alloc _ _ _)).trans g1))
  have S1 : g < w1.heap.size := Nat.lt_of_lt_of_le S0 (by have := (((World.grownBy_alloc _ _ _)).trans g1).size; exact this)
  clear cu1 g1
  go_wp2_with fail
  go_ret2
  exact ⟨_, _, rfl, K0.out.grown G1.out (fun k e => by have := Option.some.inj e; have := HGW.out; omega)⟩

set_option maxRecDepth 100000 in
set_option maxHeartbeats 4000000 in
theorem drawNumberBelow_any (A : Option Addr) (n c : Nat) (w : World) (hb : RdBy w A n) (hn : n ≤ 9223372036854775807) :
    Calls Tryd.prog 13 #[.slice A n c] w fun e w' => ∃ a b c : Int, e = .returned (.tuple #[.int .i64 a, .int .i64 b, .int .i64 c]) ∧ Kp w w' := by
  have hlt := hb.lt
  obtain ⟨g, hg⟩ : ∃ g, g = w.heap.size := ⟨_, rfl⟩
  obtain ⟨base, hbase⟩ : ∃ b, b = w.heap.size + 1 := ⟨_, rfl⟩
  have k0 : Kp w (w.alloc (.cells #[.slice A n c, .int .i64 0, .int .u64 0] 41)) := (Kp.refl w).alloc _
  have c0 : Hid (Cu (w.alloc (.cells #[.slice A n c, .int .i64 0, .int .u64 0] 41)) base g 0) := Lib.hid (by
    refine ⟨A, n, c, 0, ?_, hb.keep k0, hn, by omega, by omega, fun h0 a ha => ⟨by have := hlt h0 a ha; omega, by have := hlt h0 a ha; omega⟩⟩
    rw [hg]
    exact ⟨0, by omega, by simp [go_sem], ⟨by simp [go_sem], by simp [go_sem]⟩, ⟨by simp [go_sem], by simp [go_sem]⟩⟩)
  have K0 := Lib.hid k0
  have hsz : g < (w.alloc (.cells #[.slice A n c, .int .i64 0, .int .u64 0] 41)).heap.size := by simp; omega
  have HGW := Lib.hid hg
  have C0 := Lib.hid (fun w hc => anySeedC base g 0 w hc (by omega))
  unfold NumC at C0
  have C1 := Lib.hid (fun w hc => pickC base g 4 100 w hc (by omega) (by omega) (by omega))
  unfold PickC at C1
  have C2 := Lib.hid (fun (w : World) (hc : Cu w base g 5) (hg : g < w.heap.size) => amongC base g 5 w.heap.size 0 7 7 (-1) 4611686016279904237 (w.alloc (.cells #[.int .i64 1, .int .i64 2, .int .i64 7, .int .i64 100, .int .i64 1000000, .int .i64 1000001, .int .i64 0] 3)) (hc.keep ((Kp.refl _).alloc _)) (by omega) (by omega) (by omega) (fun i hi => by rcases (show i = 0 ∨ i = 1 ∨ i = 2 ∨ i = 3 ∨ i = 4 ∨ i = 5 ∨ i = 6 by omega) with rfl | rfl | rfl | rfl | rfl | rfl | rfl; exact ⟨1, by omega, by omega, by simp [go_sem]⟩; exact ⟨2, by omega, by omega, by simp [go_sem]⟩; exact ⟨7, by omega, by omega, by simp [go_sem]⟩; exact ⟨100, by omega, by omega, by simp [go_sem]⟩; exact ⟨1000000, by omega, by omega, by simp [go_sem]⟩; exact ⟨1000001, by omega, by omega, by simp [go_sem]⟩; exact ⟨0, by omega, by omega, by simp [go_sem]⟩) (by omega))
  unfold PickC at C2
  clear hb hlt k0 hbase
  go_enter Tryd.func13, Tryd.ntmps13
  go_upto_region 2 with fail
  rw [← hg]
  clear hg
  generalize w.alloc (.cells #[.slice A n c, .int .i64 0, .int .u64 0] 41) = W0 at *
  go_wp2_with fail
  refine (C0.out _ c0.out).mono ?_
  rintro e0 w0 ⟨x0, rfl, cu0, g0⟩
  have D0 := Lib.hid cu0
  have G0 := Lib.hid (g0)
  have S0 : g < w0.heap.size := Nat.lt_of_lt_of_le hsz (by have := (g0).size; exact this)
  clear cu0 g0
  go_wp2_with fail
  refine (C1.out _ D0.out).mono ?_
  rintro e1 w1 ⟨x1, rfl, l1, u1, cu1, g1⟩
  have D1 := Lib.hid cu1
  have G1 := Lib.hid (G0.out.trans (g1))
  have S1 : g < w1.heap.size := Nat.lt_of_lt_of_le S0 (by have := (g1).size; exact this)
  clear cu1 g1
  go_wp2_with fail
  refine (C2.out _ D1.out S1).mono ?_
  rintro e2 w2 ⟨x2, rfl, l2, u2, cu2, g2⟩
  have D2 := Lib.hid cu2
  have G2 := Lib.hid (G1.out.trans (((World.grownBy_alloc _ _ _)).trans g2))
  have S2 : g < w2.heap.size := Nat.lt_of_lt_of_le S1 (by have := (((World.grownBy_alloc _ _ _)).trans g2).size; exact this)
  clear cu2 g2
  go_wp2_with fail
  go_ret3
  exact ⟨_, _, _, rfl, K0.out.grown G2.out (fun k e => by have := Option.some.inj e; have := HGW.out; omega)⟩

set_option maxRecDepth 100000 in
set_option maxHeartbeats 4000000 in
theorem drawFacesOf_any (A : Option Addr) (n c : Nat) (w : World) (hb : RdBy w A n) (hn : n ≤ 9223372036854775807) :
    Calls Tryd.prog 16 #[.slice A n c] w fun e w' => ∃ a b : Int, e = .returned (.tuple #[.int .i64 a, .int .i64 b]) ∧ Kp w w' := by
  have hlt := hb.lt
  obtain ⟨g, hg⟩ : ∃ g, g = w.heap.size := ⟨_, rfl⟩
  obtain ⟨base, hbase⟩ : ∃ b, b = w.heap.size + 1 := ⟨_, rfl⟩
  have k0 : Kp w (w.alloc (.cells #[.slice A n c, .int .i64 0, .int .u64 0] 41)) := (Kp.refl w).alloc _
  have c0 : Hid (Cu (w.alloc (.cells #[.slice A n c, .int .i64 0, .int .u64 0] 41)) base g 0) := Lib.hid (by
    refine ⟨A, n, c, 0, ?_, hb.keep k0, hn, by omega, by omega, fun h0 a ha => ⟨by have := hlt h0 a ha; omega, by have := hlt h0 a ha; omega⟩⟩
    rw [hg]
    exact ⟨0, by omega, by simp [go_sem], ⟨by simp [go_sem], by simp [go_sem]⟩, ⟨by simp [go_sem], by simp [go_sem]⟩⟩)
  have K0 := Lib.hid k0
  have hsz : g < (w.alloc (.cells #[.slice A n c, .int .i64 0, .int .u64 0] 41)).heap.size := by simp; omega
  have HGW := Lib.hid hg
  have C0 := Lib.hid (fun w hc => anySeedC base g 0 w hc (by omega))
  unfold NumC at C0
  have C1 := Lib.hid (fun (w : World) (hc : Cu w base g 4) (hg : g < w.heap.size) => amongC base g 4 w.heap.size 0 7 7 (-1) 4611686016279904237 (w.alloc (.cells #[.int .i64 0, .int .i64 1, .int .i64 6, .int .i64 60, .int .i64 600, .int .i64 601, .int .i64 (-1)] 3)) (hc.keep ((Kp.refl _).alloc _)) (by omega) (by omega) (by omega) (fun i hi => by rcases (show i = 0 ∨ i = 1 ∨ i = 2 ∨ i = 3 ∨ i = 4 ∨ i = 5 ∨ i = 6 by omega) with rfl | rfl | rfl | rfl | rfl | rfl | rfl; exact ⟨0, by omega, by omega, by simp [go_sem]⟩; exact ⟨1, by omega, by omega, by simp [go_sem]⟩; exact ⟨6, by omega, by omega, by simp [go_sem]⟩; exact ⟨60, by omega, by omega, by simp [go_sem]⟩; exact ⟨600, by omega, by omega, by simp [go_sem]⟩; exact ⟨601, by omega, by omega, by simp [go_sem]⟩; exact ⟨(-1), by omega, by omega, by simp [go_sem]⟩) (by omega))
  unfold PickC at C1
  clear hb hlt k0 hbase
  go_enter Tryd.func16, Tryd.ntmps16
  go_upto_region 2 with fail
  rw [← hg]
  clear hg
  generalize w.alloc (.cells #[.slice A n c, .int .i64 0, .int .u64 0] 41) = W0 at *
  go_wp2_with fail
  refine (C0.out _ c0.out).mono ?_
  rintro e0 w0 ⟨x0, rfl, cu0, g0⟩
  have D0 := Lib.hid cu0
  have G0 := Lib.hid (g0)
  have S0 : g < w0.heap.size := Nat.lt_of_lt_of_le hsz (by have := (g0).size; exact this)
  clear cu0 g0
  go_wp2_with fail
  refine (C1.out _ D0.out S0).mono ?_
  rintro e1 w1 ⟨x1, rfl, l1, u1, cu1, g1⟩
  have D1 := Lib.hid cu1
  have G1 := Lib.hid (G0.out.trans (((World.grownBy_alloc _ _ _)).trans g1))
  have S1 : g < w1.heap.size := Nat.lt_of_lt_of_le S0 (by have := (((World.grownBy_alloc _ _ _)).trans g1).size; exact this)
  clear cu1 g1
  go_wp2_with fail
  go_ret2
  exact ⟨_, _, rfl, K0.out.grown G1.out (fun k e => by have := Option.some.inj e; have := HGW.out; omega)⟩

end Go.Proofs.YtajidjckpjdebaaDoor
