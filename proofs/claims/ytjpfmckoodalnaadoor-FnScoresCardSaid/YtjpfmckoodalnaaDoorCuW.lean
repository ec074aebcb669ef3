/-
  The reference's draws of combat tables: what they draw reads as a table, in memory of its own; all that was there is as it was.
-/
import Derived.Test.YtjpfmckoodalnaaDoorCuU
namespace Go.Proofs.YtjpfmckoodalnaaDoor
open Go.RowKit

/-- A table drawn from bytes. -/
def TabQ (w : World) (e : Ending) (w' : World) : Prop :=
  ∃ (c r : Value) (d : Int) (co : List (Int × Int)) (rs : List (List Int)) (vs : List Value), e = .returned (cv c d r) ∧ OwnC w' w.heap.size c r co rs vs ∧ isI64 d ∧ co.length ≤ 10 ∧ rs.length ≤ 11 ∧ (∀ l ∈ rs, l.length ≤ 6) ∧ Kp w w'

set_option maxRecDepth 100000 in
set_option maxHeartbeats 4000000 in
theorem drawIsCombatTable_any (A : Option Addr) (n c : Nat) (w : World) (hb : RdBy w A n) (hn : n ≤ 9223372036854775807) :
    Calls Tryd.prog 17 #[.slice A n c] w (TabQ w) := by
  have hlt := hb.lt
  obtain ⟨W0, hW0⟩ : ∃ W0, W0 = (w.alloc (.cells #[.slice none 0 0, .int .i64 0, .slice none 0 0] 26)).alloc (.cells #[.slice A n c, .int .i64 0, .int .u64 0] 47) := ⟨_, rfl⟩
  have k0 : Kp w W0 := by rw [hW0]; exact ((Kp.refl w).alloc _).alloc _
  have c0 : Cu W0 (w.heap.size + 2) (w.heap.size + 1) 0 := by
    refine ⟨A, n, c, 0, ?_, hb.keep k0, hn, by omega, by omega, fun h0 a ha => ⟨by have := hlt h0 a ha; omega, by have := hlt h0 a ha; omega⟩⟩
    rw [hW0]
    exact ⟨0, by omega, by simp [go_sem], ⟨by simp [go_sem], by simp [go_sem]⟩, ⟨by simp [go_sem], by simp [go_sem]⟩⟩
  have la : Live3 W0 w.heap.size (.slice none 0 0) (.int .i64 0) (.slice none 0 0) := by rw [hW0]; exact ⟨by simp [go_sem], by simp [go_sem], by simp [go_sem]⟩
  have hsz : W0.heap.size = w.heap.size + 2 := by rw [hW0]; simp
  have CT := anyCombatTable_any (w.heap.size + 2) (w.heap.size + 1) 0 W0 c0 (by omega) (by omega)
  unfold TabA at CT
  have HC := Lib.hid CT
  have K0 := Lib.hid k0
  clear hb hlt k0 c0 CT
  go_enter Tryd.func17, Tryd.ntmps17
  go_wp2_with fail
  rw [← hW0]
  clear hW0
  refine HC.out.mono ?_
  rintro e1 w1 ⟨c1, r1, d, co, rs, vs, rfl, oc, hd, h1, h2, h3, _, g1⟩
  have la1 := live3_grown g1 (fun e => by have := Option.some.inj e; omega) la
  have K1 : Kp w w1 := K0.out.grown g1 (fun k e => by have := Option.some.inj e; omega)
  have HB1 := Lib.hid g1.size
  rw [hsz] at oc
  obtain ⟨A1, cc1, hc1⟩ := own_slice oc.oc
  obtain ⟨A2, cc2, hr1⟩ := own_slice oc.or.row
  subst hc1 hr1
  have OC := Lib.hid oc
  clear oc g1 la HC K0
  go_wp2_with fail
  exact bodyPost_ret (v := cv (.slice A1 co.length cc1) d (.slice A2 rs.length cc2)) (by simp [results, Tryd.results17, go_sem, *]) rfl ⟨_, _, d, co, rs, vs, rfl, (((OC.out.far (by omega) _).far (by omega) _).far (by omega) _).base (by omega), hd, h1, h2, h3, ((K1.setCell (by simp) _).setCell (by simp) _).setCell (by simp) _⟩

set_option maxRecDepth 100000 in
set_option maxHeartbeats 4000000 in
theorem drawIsMonotone_any (A : Option Addr) (n c : Nat) (w : World) (hb : RdBy w A n) (hn : n ≤ 9223372036854775807) :
    Calls Tryd.prog 4 #[.slice A n c] w (TabQ w) := by
  have k0 : Kp w (w.alloc (.cells #[.slice none 0 0, .int .i64 0, .slice none 0 0] 26)) := (Kp.refl w).alloc _
  have la : Live3 (w.alloc (.cells #[.slice none 0 0, .int .i64 0, .slice none 0 0] 26)) w.heap.size (.slice none 0 0) (.int .i64 0) (.slice none 0 0) := ⟨by simp [go_sem], by simp [go_sem], by simp [go_sem]⟩
  have CT := drawIsCombatTable_any A n c _ (hb.keep k0) hn
  unfold TabQ at CT
  have HC := Lib.hid CT
  have K0 := Lib.hid k0
  have hsz : (w.alloc (.cells #[.slice none 0 0, .int .i64 0, .slice none 0 0] 26)).heap.size = w.heap.size + 1 := by simp
  clear hb k0 CT
  go_enter Tryd.func4, Tryd.ntmps4
  go_wp2_with fail
  generalize w.alloc (.cells #[.slice none 0 0, .int .i64 0, .slice none 0 0] 26) = W0 at *
  refine HC.out.mono ?_
  rintro e1 w1 ⟨c1, r1, d, co, rs, vs, rfl, oc, hd, h1, h2, h3, k1⟩
  have la1 := live3_keep k1 la
  have K1 := K0.out.trans k1
  rw [hsz] at oc
  obtain ⟨A1, cc1, hc1⟩ := own_slice oc.oc
  obtain ⟨A2, cc2, hr1⟩ := own_slice oc.or.row
  subst hc1 hr1
  have OC := Lib.hid oc
  clear oc k1 la HC K0
  go_wp2_with fail
  exact bodyPost_ret (v := cv (.slice A1 co.length cc1) d (.slice A2 rs.length cc2)) (by simp [results, Tryd.results4, go_sem, *]) rfl ⟨_, _, d, co, rs, vs, rfl, (((OC.out.far (by omega) _).far (by omega) _).far (by omega) _).base (by omega), hd, h1, h2, h3, ((K1.setCell (by simp) _).setCell (by simp) _).setCell (by simp) _⟩

theorem eight_at (w : World) (T : TypeId) :
    ∀ i : Nat, i < 8 → ∃ v : Int, -10 ≤ v ∧ v ≤ 11 ∧ (w.alloc (.cells #[.int .i64 0, .int .i64 1, .int .i64 (-1), .int .i64 3, .int .i64 (-3), .int .i64 10, .int .i64 (-10), .int .i64 11] T)).cell? ⟨w.heap.size, 0 + i, none⟩ = some (.int .i64 v)
  | 0, _ => ⟨0, by omega, by omega, by simp [go_sem]⟩
  | 1, _ => ⟨1, by omega, by omega, by simp [go_sem]⟩
  | 2, _ => ⟨-1, by omega, by omega, by simp [go_sem]⟩
  | 3, _ => ⟨3, by omega, by omega, by simp [go_sem]⟩
  | 4, _ => ⟨-3, by omega, by omega, by simp [go_sem]⟩
  | 5, _ => ⟨10, by omega, by omega, by simp [go_sem]⟩
  | 6, _ => ⟨-10, by omega, by omega, by simp [go_sem]⟩
  | 7, _ => ⟨11, by omega, by omega, by simp [go_sem]⟩
/-- A table and one number drawn, or two. -/
def TabQ1 (w : World) (e : Ending) (w' : World) : Prop :=
  ∃ (c r : Value) (d : Int) (co : List (Int × Int)) (rs : List (List Int)) (vs : List Value) (x : Int), e = .returned (.tuple #[cv c d r, .int .i64 x]) ∧ OwnC w' w.heap.size c r co rs vs ∧ isI64 d ∧ co.length ≤ 10 ∧ rs.length ≤ 11 ∧ (∀ l ∈ rs, l.length ≤ 6) ∧ Kp w w'
def TabQ2 (w : World) (e : Ending) (w' : World) : Prop :=
  ∃ (c r : Value) (d : Int) (co : List (Int × Int)) (rs : List (List Int)) (vs : List Value) (x y : Int), e = .returned (.tuple #[cv c d r, .int .i64 x, .int .i64 y]) ∧ OwnC w' w.heap.size c r co rs vs ∧ isI64 d ∧ co.length ≤ 10 ∧ rs.length ≤ 11 ∧ (∀ l ∈ rs, l.length ≤ 6) ∧ Kp w w'

set_option maxRecDepth 100000 in
set_option maxHeartbeats 4000000 in
theorem drawShiftColumn_any (A : Option Addr) (n c : Nat) (w : World) (hb : RdBy w A n) (hn : n ≤ 9223372036854775807) :
    Calls Tryd.prog 7 #[.slice A n c] w (TabQ2 w) := by
  have hlt := hb.lt
  obtain ⟨W0, hW0⟩ : ∃ W0, W0 = (w.alloc (.cells #[.slice none 0 0, .int .i64 0, .slice none 0 0] 26)).alloc (.cells #[.slice A n c, .int .i64 0, .int .u64 0] 47) := ⟨_, rfl⟩
  have k0 : Kp w W0 := by rw [hW0]; exact ((Kp.refl w).alloc _).alloc _
  have c0 : Cu W0 (w.heap.size + 2) (w.heap.size + 1) 0 := by
    refine ⟨A, n, c, 0, ?_, hb.keep k0, hn, by omega, by omega, fun h0 a ha => ⟨by have := hlt h0 a ha; omega, by have := hlt h0 a ha; omega⟩⟩
    rw [hW0]
    exact ⟨0, by omega, by simp [go_sem], ⟨by simp [go_sem], by simp [go_sem]⟩, ⟨by simp [go_sem], by simp [go_sem]⟩⟩
  have la : Live3 W0 w.heap.size (.slice none 0 0) (.int .i64 0) (.slice none 0 0) := by rw [hW0]; exact ⟨by simp [go_sem], by simp [go_sem], by simp [go_sem]⟩
  have hsz : W0.heap.size = w.heap.size + 2 := by rw [hW0]; simp
  have CT := anyCombatTable_any (w.heap.size + 2) (w.heap.size + 1) 0 W0 c0 (by omega) (by omega)
  unfold TabA at CT
  have HC := Lib.hid CT
  have K0 := Lib.hid k0
  clear hb hlt k0 c0 CT
  go_enter Tryd.func7, Tryd.ntmps7
  go_wp2_with fail
  rw [← hW0]
  clear hW0
  refine HC.out.mono ?_
  rintro e1 w1 ⟨c1, r1, d, co, rs, vs, rfl, oc, hd, h1, h2, h3, cu1, g1⟩
  have la1 := live3_grown g1 (fun e => by have := Option.some.inj e; omega) la
  have K1 : Kp w w1 := K0.out.grown g1 (fun k e => by have := Option.some.inj e; omega)
  have hs1 := g1.size
  rw [hsz] at oc
  obtain ⟨A1, cc1, hc1⟩ := own_slice oc.oc
  obtain ⟨A2, cc2, hr1⟩ := own_slice oc.or.row
  subst hc1 hr1
  have OC1 := Lib.hid oc
  have HD := Lib.hid (And.intro hd (And.intro h1 (And.intro h2 h3)))
  clear oc g1 la HC K0 hd h1 h2 h3
  go_wp2_with fail
  refine (pickC (w.heap.size + 2) (w.heap.size + 1) _ 6 _ cu1 (by omega) (by omega) (by omega)).mono ?_
  rintro e2 w2 ⟨x, rfl, x0, x1, cu2, g2⟩
  have la2 := live3_grown g2 (fun e => by have := Option.some.inj e; omega) la1
  have OC2 := Lib.hid (OC1.out.draw g2 (by omega))
  have K2 : Kp w w2 := K1.grown g2 (fun k e => by have := Option.some.inj e; omega)
  have hs2 := g2.size
  clear la1 OC1 K1
  go_wp2_with fail
  refine (pickC (w.heap.size + 2) (w.heap.size + 1) _ 8 _ cu2 (by omega) (by omega) (by omega)).mono ?_
  rintro e3 w3 ⟨y, rfl, y0, y1, cu3, g3⟩
  have la3 := live3_grown g3 (fun e => by have := Option.some.inj e; omega) la2
  have OC3 := Lib.hid (OC2.out.draw g3 (by omega))
  have K3 : Kp w w3 := K2.grown g3 (fun k e => by have := Option.some.inj e; omega)
  have hs3 := g3.size
  clear la2 OC2 K2
  have e0 : IntKind.i64.wrap (y.tdiv 7) = y.tdiv 7 := IntWalk.i64_in _ (by have := tdiv_nn (a := y) (p := 7) y0 (by omega); omega)
  have e1 : IntKind.i64.wrap (x - y.tdiv 7) = x - y.tdiv 7 := IntWalk.i64_in _ (by have := tdiv_nn (a := y) (p := 7) y0 (by omega); omega)
  go_wp2_with fail
  have ka : Kp w3 (w3.alloc (.cells #[.int .i64 0, .int .i64 1, .int .i64 (-1), .int .i64 3, .int .i64 (-3), .int .i64 10, .int .i64 (-10), .int .i64 11] 3)) := (Kp.refl w3).alloc _
  have K3a := K3.trans ka
  have OC3a := Lib.hid (OC3.out.keep ka)
  have la3a := live3_keep ka la3
  clear K3 OC3 la3
  have K3 := K3a
  have OC3 := OC3a
  have la3 := la3a
  clear K3a OC3a la3a
  refine (amongC (w.heap.size + 2) (w.heap.size + 1) _ w3.heap.size 0 8 8 (-10) 11 _ (cu3.keep ka) (by omega) (by omega) (by omega) (eight_at w3 3) (by omega)).mono ?_
  rintro e4 w4 ⟨z, rfl, z0, z1, cu4, g4⟩
  have la4 := live3_grown g4 (fun e => by have := Option.some.inj e; omega) la3
  have OC4 := Lib.hid (OC3.out.draw g4 (by omega))
  have K4 : Kp w w4 := K3.grown g4 (fun k e => by have := Option.some.inj e; omega)
  have hs4 := g4.size
  clear la3 OC3 K3
  go_wp2_with fail
  exact bodyPost_ret (v := .tuple #[cv (.slice A1 co.length cc1) d (.slice A2 rs.length cc2), .int .i64 (x - y.tdiv 7), .int .i64 z]) (by simp [results, Tryd.results7, go_sem, *]) rfl ⟨_, _, d, co, rs, vs, x - y.tdiv 7, z, rfl, (((OC4.out.far (by omega) _).far (by omega) _).far (by omega) _).base (by omega), HD.out.1, HD.out.2.1, HD.out.2.2.1, HD.out.2.2.2, ((K4.setCell (by simp) _).setCell (by simp) _).setCell (by simp) _⟩

set_option maxRecDepth 100000 in
set_option maxHeartbeats 4000000 in
theorem drawResultAt_any (A : Option Addr) (n c : Nat) (w : World) (hb : RdBy w A n) (hn : n ≤ 9223372036854775807) :
    Calls Tryd.prog 10 #[.slice A n c] w (TabQ2 w) := by
  have hlt := hb.lt
  obtain ⟨W0, hW0⟩ : ∃ W0, W0 = (w.alloc (.cells #[.slice none 0 0, .int .i64 0, .slice none 0 0] 26)).alloc (.cells #[.slice A n c, .int .i64 0, .int .u64 0] 47) := ⟨_, rfl⟩
  have k0 : Kp w W0 := by rw [hW0]; exact ((Kp.refl w).alloc _).alloc _
  have c0 : Cu W0 (w.heap.size + 2) (w.heap.size + 1) 0 := by
    refine ⟨A, n, c, 0, ?_, hb.keep k0, hn, by omega, by omega, fun h0 a ha => ⟨by have := hlt h0 a ha; omega, by have := hlt h0 a ha; omega⟩⟩
    rw [hW0]
    exact ⟨0, by omega, by simp [go_sem], ⟨by simp [go_sem], by simp [go_sem]⟩, ⟨by simp [go_sem], by simp [go_sem]⟩⟩
  have la : Live3 W0 w.heap.size (.slice none 0 0) (.int .i64 0) (.slice none 0 0) := by rw [hW0]; exact ⟨by simp [go_sem], by simp [go_sem], by simp [go_sem]⟩
  have hsz : W0.heap.size = w.heap.size + 2 := by rw [hW0]; simp
  have CT := anyCombatTable_any (w.heap.size + 2) (w.heap.size + 1) 0 W0 c0 (by omega) (by omega)
  unfold TabA at CT
  have HC := Lib.hid CT
  have K0 := Lib.hid k0
  clear hb hlt k0 c0 CT
  go_enter Tryd.func10, Tryd.ntmps10
  go_wp2_with fail
  rw [← hW0]
  clear hW0
  refine HC.out.mono ?_
  rintro e1 w1 ⟨c1, r1, d, co, rs, vs, rfl, oc, hd, h1, h2, h3, cu1, g1⟩
  have la1 := live3_grown g1 (fun e => by have := Option.some.inj e; omega) la
  have K1 : Kp w w1 := K0.out.grown g1 (fun k e => by have := Option.some.inj e; omega)
  have hs1 := g1.size
  rw [hsz] at oc
  obtain ⟨A1, cc1, hc1⟩ := own_slice oc.oc
  obtain ⟨A2, cc2, hr1⟩ := own_slice oc.or.row
  subst hc1 hr1
  have OC1 := Lib.hid oc
  have HD := Lib.hid (And.intro hd (And.intro h1 (And.intro h2 h3)))
  clear oc g1 la HC K0 hd h1 h2 h3
  go_wp2_with fail
  refine (pickC (w.heap.size + 2) (w.heap.size + 1) _ 14 _ cu1 (by omega) (by omega) (by omega)).mono ?_
  rintro e2 w2 ⟨x, rfl, x0, x1, cu2, g2⟩
  have la2 := live3_grown g2 (fun e => by have := Option.some.inj e; omega) la1
  have OC2 := Lib.hid (OC1.out.draw g2 (by omega))
  have K2 : Kp w w2 := K1.grown g2 (fun k e => by have := Option.some.inj e; omega)
  have hs2 := g2.size
  clear la1 OC1 K1
  go_wp2_with fail
  refine (pickC (w.heap.size + 2) (w.heap.size + 1) _ 5 _ cu2 (by omega) (by omega) (by omega)).mono ?_
  rintro e3 w3 ⟨y, rfl, y0, y1, cu3, g3⟩
  have la3 := live3_grown g3 (fun e => by have := Option.some.inj e; omega) la2
  have OC3 := Lib.hid (OC2.out.draw g3 (by omega))
  have K3 : Kp w w3 := K2.grown g3 (fun k e => by have := Option.some.inj e; omega)
  have hs3 := g3.size
  clear la2 OC2 K2
  go_wp2_with fail
  exact bodyPost_ret (v := .tuple #[cv (.slice A1 co.length cc1) d (.slice A2 rs.length cc2), .int .i64 x, .int .i64 y]) (by simp [results, Tryd.results10, go_sem, *]) rfl ⟨_, _, d, co, rs, vs, x, y, rfl, (((OC3.out.far (by omega) _).far (by omega) _).far (by omega) _).base (by omega), HD.out.1, HD.out.2.1, HD.out.2.2.1, HD.out.2.2.2, ((K3.setCell (by simp) _).setCell (by simp) _).setCell (by simp) _⟩

set_option maxRecDepth 100000 in
set_option maxHeartbeats 4000000 in
theorem drawCountResults_any (A : Option Addr) (n c : Nat) (w : World) (hb : RdBy w A n) (hn : n ≤ 9223372036854775807) :
    Calls Tryd.prog 32 #[.slice A n c] w (TabQ1 w) := by
  have hlt := hb.lt
  obtain ⟨W0, hW0⟩ : ∃ W0, W0 = (w.alloc (.cells #[.slice none 0 0, .int .i64 0, .slice none 0 0] 26)).alloc (.cells #[.slice A n c, .int .i64 0, .int .u64 0] 47) := ⟨_, rfl⟩
  have k0 : Kp w W0 := by rw [hW0]; exact ((Kp.refl w).alloc _).alloc _
  have c0 : Cu W0 (w.heap.size + 2) (w.heap.size + 1) 0 := by
    refine ⟨A, n, c, 0, ?_, hb.keep k0, hn, by omega, by omega, fun h0 a ha => ⟨by have := hlt h0 a ha; omega, by have := hlt h0 a ha; omega⟩⟩
    rw [hW0]
    exact ⟨0, by omega, by simp [go_sem], ⟨by simp [go_sem], by simp [go_sem]⟩, ⟨by simp [go_sem], by simp [go_sem]⟩⟩
  have la : Live3 W0 w.heap.size (.slice none 0 0) (.int .i64 0) (.slice none 0 0) := by rw [hW0]; exact ⟨by simp [go_sem], by simp [go_sem], by simp [go_sem]⟩
  have hsz : W0.heap.size = w.heap.size + 2 := by rw [hW0]; simp
  have CT := anyCombatTable_any (w.heap.size + 2) (w.heap.size + 1) 0 W0 c0 (by omega) (by omega)
  unfold TabA at CT
  have HC := Lib.hid CT
  have K0 := Lib.hid k0
  clear hb hlt k0 c0 CT
  go_enter Tryd.func32, Tryd.ntmps32
  go_wp2_with fail
  rw [← hW0]
  clear hW0
  refine HC.out.mono ?_
  rintro e1 w1 ⟨c1, r1, d, co, rs, vs, rfl, oc, hd, h1, h2, h3, cu1, g1⟩
  have la1 := live3_grown g1 (fun e => by have := Option.some.inj e; omega) la
  have K1 : Kp w w1 := K0.out.grown g1 (fun k e => by have := Option.some.inj e; omega)
  have hs1 := g1.size
  rw [hsz] at oc
  obtain ⟨A1, cc1, hc1⟩ := own_slice oc.oc
  obtain ⟨A2, cc2, hr1⟩ := own_slice oc.or.row
  subst hc1 hr1
  have OC1 := Lib.hid oc
  have HD := Lib.hid (And.intro hd (And.intro h1 (And.intro h2 h3)))
  clear oc g1 la HC K0 hd h1 h2 h3
  go_wp2_with fail
  refine (pickC (w.heap.size + 2) (w.heap.size + 1) _ 6 _ cu1 (by omega) (by omega) (by omega)).mono ?_
  rintro e2 w2 ⟨x, rfl, x0, x1, cu2, g2⟩
  have la2 := live3_grown g2 (fun e => by have := Option.some.inj e; omega) la1
  have OC2 := Lib.hid (OC1.out.draw g2 (by omega))
  have K2 : Kp w w2 := K1.grown g2 (fun k e => by have := Option.some.inj e; omega)
  have hs2 := g2.size
  clear la1 OC1 K1
  go_wp2_with fail
  refine (pickC (w.heap.size + 2) (w.heap.size + 1) _ 8 _ cu2 (by omega) (by omega) (by omega)).mono ?_
  rintro e3 w3 ⟨y, rfl, y0, y1, cu3, g3⟩
  have la3 := live3_grown g3 (fun e => by have := Option.some.inj e; omega) la2
  have OC3 := Lib.hid (OC2.out.draw g3 (by omega))
  have K3 : Kp w w3 := K2.grown g3 (fun k e => by have := Option.some.inj e; omega)
  have hs3 := g3.size
  clear la2 OC2 K2
  have e0 : IntKind.i64.wrap (y.tdiv 7) = y.tdiv 7 := IntWalk.i64_in _ (by have := tdiv_nn (a := y) (p := 7) y0 (by omega); omega)
  have e1 : IntKind.i64.wrap (x - y.tdiv 7) = x - y.tdiv 7 := IntWalk.i64_in _ (by have := tdiv_nn (a := y) (p := 7) y0 (by omega); omega)
  go_wp2_with fail
  exact bodyPost_ret (v := .tuple #[cv (.slice A1 co.length cc1) d (.slice A2 rs.length cc2), .int .i64 (x - y.tdiv 7)]) (by simp [results, Tryd.results32, go_sem, *]) rfl ⟨_, _, d, co, rs, vs, x - y.tdiv 7, rfl, (((OC3.out.far (by omega) _).far (by omega) _).far (by omega) _).base (by omega), HD.out.1, HD.out.2.1, HD.out.2.2.1, HD.out.2.2.2, ((K3.setCell (by simp) _).setCell (by simp) _).setCell (by simp) _⟩

set_option maxRecDepth 100000 in
set_option maxHeartbeats 4000000 in
theorem drawMeanScore_any (A : Option Addr) (n c : Nat) (w : World) (hb : RdBy w A n) (hn : n ≤ 9223372036854775807) :
    Calls Tryd.prog 13 #[.slice A n c] w (TabQ1 w) := by
  have k0 : Kp w (w.alloc (.cells #[.slice none 0 0, .int .i64 0, .slice none 0 0] 26)) := (Kp.refl w).alloc _
  have la : Live3 (w.alloc (.cells #[.slice none 0 0, .int .i64 0, .slice none 0 0] 26)) w.heap.size (.slice none 0 0) (.int .i64 0) (.slice none 0 0) := ⟨by simp [go_sem], by simp [go_sem], by simp [go_sem]⟩
  have CT := drawCountResults_any A n c _ (hb.keep k0) hn
  unfold TabQ1 at CT
  have HC := Lib.hid CT
  have K0 := Lib.hid k0
  have hsz : (w.alloc (.cells #[.slice none 0 0, .int .i64 0, .slice none 0 0] 26)).heap.size = w.heap.size + 1 := by simp
  clear hb k0 CT
  go_enter Tryd.func13, Tryd.ntmps13
  go_wp2_with fail
  generalize w.alloc (.cells #[.slice none 0 0, .int .i64 0, .slice none 0 0] 26) = W0 at *
  refine HC.out.mono ?_
  rintro e1 w1 ⟨c1, r1, d, co, rs, vs, x, rfl, oc, hd, h1, h2, h3, k1⟩
  have la1 := live3_keep k1 la
  have K1 := K0.out.trans k1
  rw [hsz] at oc
  obtain ⟨A1, cc1, hc1⟩ := own_slice oc.oc
  obtain ⟨A2, cc2, hr1⟩ := own_slice oc.or.row
  subst hc1 hr1
  have OC := Lib.hid oc
  clear oc k1 la HC K0
  go_wp2_with fail
  exact bodyPost_ret (v := .tuple #[cv (.slice A1 co.length cc1) d (.slice A2 rs.length cc2), .int .i64 x]) (by simp [results, Tryd.results13, go_sem, *]) rfl ⟨_, _, d, co, rs, vs, x, rfl, (((OC.out.far (by omega) _).far (by omega) _).far (by omega) _).base (by omega), hd, h1, h2, h3, ((K1.setCell (by simp) _).setCell (by simp) _).setCell (by simp) _⟩

end Go.Proofs.YtjpfmckoodalnaaDoor
