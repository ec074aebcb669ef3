/-
  Texts of this seat in one module: RulO, BrdL, TabS, Mk, Bld, Txt, Dig, Spl, Spt, NuL, TxR, MpM, RuK, SpK.
-/
import Derived.Deep.Slices
import Derived.Test.YtmolpkjdjkhnpabGreatDoorShelf
import Derived.Laws.BytesArg
import Derived.Lib.ItoaNum
import Derived.Lib.SplitLaws
import Derived.Lib.Join
import Derived.Lib.IndexBytes
import Derived.Maps.AppendAt
import Derived.Test.YtmolpkjdjkhnpabGreatDoorQa
import Derived.Test.YtmolpkjdjkhnpabGreatDoorQb
import Derived.Test.YtmolpkjdjkhnpabGreatDoorQc

/-
  An argument of type Rules reads as two lists and five numbers.
-/
namespace Go.Proofs.YtmolpkjdjkhnpabGreatDoor
open Go.ChangeShapes Go.WideShapes Go.ChangeAt Go.RowKit Go.Joins Go.Deep

theorem RulIn.keep {w w' : World} {At Ak : Option Addr} {nt nk : Nat} {l : List Ter} {m : List Knd} (h : RulIn w At Ak nt nk l m) (k : Kp w w') : RulIn w' At Ak nt nk l m :=
  ⟨h.rt.keep k, h.rk.keep k, h.bt, h.bk, h.bc, h.bn⟩

theorem cellsTer : Tryz.prog.cellsOf 96 = 5 := by kernel_rfl
theorem cellsKnd : Tryz.prog.cellsOf 98 = 6 := by kernel_rfl
theorem cellsRul : Tryz.prog.cellsOf 25 = 7 := by kernel_rfl

set_option maxRecDepth 100000 in
theorem rdT_of_trod {H : Type} {enc : TypeId × Value → H} {W : World} {v : Value} {n : Nat} {y : DataW H × List MemPlace}
    (hf : DataW.trod enc Tryz.prog W 0 (fun _ => true) true n 22 [v] = some y) : ∃ (A : Option Addr) (n c : Nat) (l : List Ter), v = .slice A n c ∧ RdT W A n l ∧ n ≤ 9223372036854775807 ∧ (∀ x ∈ l, x.cost.length ≤ 9223372036854775807 ∧ x.name.size ≤ 9223372036854775807) ∧ ∀ x ∈ l, ∀ z ∈ x.cost, -9223372036854775808 ≤ z ∧ z ≤ 9223372036854775807 := by
  obtain ⟨A, n, c, l, rfl, hl, hm, hr⟩ := rd_structs (α := Ter) (fun g o x => TerAt W g o x ∧ (x.cost.length ≤ 9223372036854775807 ∧ x.name.size ≤ 9223372036854775807) ∧ ∀ z ∈ x.cost, -9223372036854775808 ≤ z ∧ z ≤ 9223372036854775807) cellsTer Tryz.underlying22 hf (fun a fu cs x hcl hat hx => by
    obtain ⟨k, hk⟩ := fields_of_trod Tryz.underlying96 (by kernel_rfl) rfl hcl hx
    obtain ⟨c0, y0, q0, h0⟩ := hk 0 _ rfl
    obtain ⟨c1, y1, q1, h1⟩ := hk 1 _ rfl
    obtain ⟨c2, y2, q2, h2⟩ := hk 2 _ rfl
    obtain ⟨c3, y3, q3, h3⟩ := hk 3 _ rfl
    obtain ⟨c4, y4, q4, h4⟩ := hk 4 _ rfl
    obtain ⟨s, e0, _, ws⟩ := DataW.trod_string Tryz.underlying9 h0
    obtain ⟨lc, r1, r2, r3⟩ := rdB_of_trod h1
    obtain ⟨z2, e2, _, w2⟩ := DataW.trod_int Tryz.underlying3 h2
    obtain ⟨z3, e3, _, w3⟩ := DataW.trod_int Tryz.underlying3 h3
    obtain ⟨z4, e4, _⟩ := DataW.trod_bool Tryz.underlying4 h4
    simp only [List.cons.injEq, and_true] at e0 e2 e3 e4
    subst e0 e2 e3 e4
    have g0 := (hat 0 (by omega)).trans q0
    have g1 := (hat 1 (by omega)).trans q1
    have g2 := (hat 2 (by omega)).trans q2
    have g3 := (hat 3 (by omega)).trans q3
    have g4 := (hat 4 (by omega)).trans q4
    obtain ⟨b, off, spot⟩ := a
    have hspot : spot = none := by
      have := World.cell?_spot g0
      simpa [Addr.add] using this
    subst hspot
    rw [add_none'] at g0 g1 g2 g3 g4
    obtain ⟨A1, c1', rfl⟩ := r1.shape
    unfold maxLen at ws
    exact ⟨rfl, ⟨s, lc, z2, z3, z4⟩, ⟨A1, c1', ⟨g0, g1, g2, g3, g4⟩, r1⟩, ⟨r2, by simp only; omega⟩, r3⟩)
  have mem : ∀ x ∈ l, ∃ g o, TerAt W g o x ∧ (x.cost.length ≤ 9223372036854775807 ∧ x.name.size ≤ 9223372036854775807) ∧ ∀ z ∈ x.cost, -9223372036854775808 ≤ z ∧ z ≤ 9223372036854775807 := fun x hx => by
    obtain ⟨i, hi, rfl⟩ := List.mem_iff_getElem.1 hx
    obtain ⟨g, off, rfl, hc⟩ := hr (by omega)
    exact ⟨_, _, hc i _ (List.getElem?_eq_getElem hi)⟩
  unfold maxLen at hm
  refine ⟨A, n, c, l, rfl, ⟨hl, fun h0 => ?_⟩, by omega, fun x hx => ?_, fun x hx => ?_⟩
  · obtain ⟨g, off, e, hc⟩ := hr h0
    exact ⟨g, off, e, fun i x hx => (hc i x hx).1⟩
  · obtain ⟨_, _, _, h, _⟩ := mem x hx
    exact h
  · obtain ⟨_, _, _, _, h⟩ := mem x hx
    exact h

set_option maxRecDepth 100000 in
theorem rdK_of_trod {H : Type} {enc : TypeId × Value → H} {W : World} {v : Value} {n : Nat} {y : DataW H × List MemPlace}
    (hf : DataW.trod enc Tryz.prog W 0 (fun _ => true) true n 23 [v] = some y) : ∃ (A : Option Addr) (n c : Nat) (l : List Knd), v = .slice A n c ∧ RdK W A n l ∧ n ≤ 9223372036854775807 ∧ ∀ x ∈ l, x.name.size ≤ 9223372036854775807 := by
  obtain ⟨A, n, c, l, rfl, hl, hm, hr⟩ := rd_structs (α := Knd) (fun g o x => KndAt W g o x ∧ x.name.size ≤ 9223372036854775807) cellsKnd Tryz.underlying23 hf (fun a fu cs x hcl hat hx => by
    obtain ⟨k, hk⟩ := fields_of_trod Tryz.underlying98 (by kernel_rfl) rfl hcl hx
    obtain ⟨c0, y0, q0, h0⟩ := hk 0 _ rfl
    obtain ⟨c1, y1, q1, h1⟩ := hk 1 _ rfl
    obtain ⟨c2, y2, q2, h2⟩ := hk 2 _ rfl
    obtain ⟨c3, y3, q3, h3⟩ := hk 3 _ rfl
    obtain ⟨c4, y4, q4, h4⟩ := hk 4 _ rfl
    obtain ⟨c5, y5, q5, h5⟩ := hk 5 _ rfl
    obtain ⟨s, e0, _, ws⟩ := DataW.trod_string Tryz.underlying9 h0
    obtain ⟨z1, e1, _, w1⟩ := DataW.trod_int Tryz.underlying3 h1
    obtain ⟨z2, e2, _, w2⟩ := DataW.trod_int Tryz.underlying3 h2
    obtain ⟨z3, e3, _, w3⟩ := DataW.trod_int Tryz.underlying3 h3
    obtain ⟨z4, e4, _⟩ := DataW.trod_bool Tryz.underlying4 h4
    obtain ⟨z5, e5, _, w5⟩ := DataW.trod_int Tryz.underlying3 h5
    simp only [List.cons.injEq, and_true] at e0 e1 e2 e3 e4 e5
    subst e0 e1 e2 e3 e4 e5
    have g0 := (hat 0 (by omega)).trans q0
    have g1 := (hat 1 (by omega)).trans q1
    have g2 := (hat 2 (by omega)).trans q2
    have g3 := (hat 3 (by omega)).trans q3
    have g4 := (hat 4 (by omega)).trans q4
    have g5 := (hat 5 (by omega)).trans q5
    obtain ⟨b, off, spot⟩ := a
    have hspot : spot = none := by
      have := World.cell?_spot g0
      simpa [Addr.add] using this
    subst hspot
    rw [add_none'] at g0 g1 g2 g3 g4 g5
    unfold maxLen at ws
    exact ⟨rfl, ⟨s, z1, z2, z3, z4, z5⟩, ⟨g0, g1, g2, g3, g4, g5⟩, by simp only; omega⟩)
  unfold maxLen at hm
  refine ⟨A, n, c, l, rfl, ⟨hl, fun h0 => ?_⟩, by omega, fun x hx => ?_⟩
  · obtain ⟨g, off, e, hc⟩ := hr h0
    exact ⟨g, off, e, fun i x hx => (hc i x hx).1⟩
  · obtain ⟨i, hi, rfl⟩ := List.mem_iff_getElem.1 hx
    obtain ⟨g, off, rfl, hc⟩ := hr (by omega)
    exact (hc i _ (List.getElem?_eq_getElem hi)).2

theorem seven {α : Type} {l : List α} (h : l.length = 7) {a b c d e f g : α} (h0 : l[0]? = some a) (h1 : l[1]? = some b) (h2 : l[2]? = some c) (h3 : l[3]? = some d) (h4 : l[4]? = some e) (h5 : l[5]? = some f) (h6 : l[6]? = some g) : l = [a, b, c, d, e, f, g] := by
  match l, h with
  | [x0, x1, x2, x3, x4, x5, x6], _ => simp_all

set_option maxRecDepth 100000 in
/-- Seven cells that read as rules. -/
theorem rules_cells {H : Type} {enc : TypeId × Value → H} {W : World} {cs : List Value} {n : Nat} (hl : cs.length = 7)
    (hf : ∀ (j : Nat) (f : Field), (match Tryz.prog.underlying 25 with | some (.struct fs) => fs | _ => #[])[j]? = some f → ∃ c y, cs[j]? = some c ∧ DataW.trod enc Tryz.prog W 0 (fun _ => true) true n f.type [c] = some y) :
    ∃ (At Ak : Option Addr) (nt nk ct ck : Nat) (l : List Ter) (m : List Knd) (a b c d e : Int), cs = [.slice At nt ct, .slice Ak nk ck, .int .i64 a, .int .i64 b, .int .i64 c, .int .i64 d, .int .i64 e] ∧ RulIn W At Ak nt nk l m ∧ ∀ x ∈ l, ∀ z ∈ x.cost, -9223372036854775808 ≤ z ∧ z ≤ 9223372036854775807 := by
  rw [Tryz.underlying25] at hf
  obtain ⟨c0, y0, q0, h0⟩ := hf 0 _ rfl
  obtain ⟨c1, y1, q1, h1⟩ := hf 1 _ rfl
  obtain ⟨c2, y2, q2, h2⟩ := hf 2 _ rfl
  obtain ⟨c3, y3, q3, h3⟩ := hf 3 _ rfl
  obtain ⟨c4, y4, q4, h4⟩ := hf 4 _ rfl
  obtain ⟨c5, y5, q5, h5⟩ := hf 5 _ rfl
  obtain ⟨c6, y6, q6, h6⟩ := hf 6 _ rfl
  obtain rfl := seven hl q0 q1 q2 q3 q4 q5 q6
  obtain ⟨At, nt, ct, l, rfl, r1, r2, r3, r4⟩ := rdT_of_trod h0
  obtain ⟨Ak, nk, ck, m, rfl, s1, s2, s3⟩ := rdK_of_trod h1
  obtain ⟨a, e2, _, _⟩ := DataW.trod_int Tryz.underlying3 h2
  obtain ⟨b, e3, _, _⟩ := DataW.trod_int Tryz.underlying3 h3
  obtain ⟨c, e4, _, _⟩ := DataW.trod_int Tryz.underlying3 h4
  obtain ⟨d, e5, _, _⟩ := DataW.trod_int Tryz.underlying3 h5
  obtain ⟨e, e6, _, _⟩ := DataW.trod_int Tryz.underlying3 h6
  simp only [List.cons.injEq, and_true] at e2 e3 e4 e5 e6
  subst e2 e3 e4 e5 e6
  exact ⟨At, Ak, nt, nk, ct, ck, l, m, a, b, c, d, e, rfl, ⟨r1, s1, r2, s2, r3, s3⟩, r4⟩

set_option maxRecDepth 100000 in
/-- An argument of type Rules. -/
theorem open_rules {H : Type} {enc : TypeId × Value → H} {W : World} {base : Nat} {v : Value} {d : DataW H} {p : List MemPlace}
    (hv : Value.okWide Tryz.prog W .any base 25 v) (h : DataW.Trod enc Tryz.prog W 0 (fun _ => true) true 25 v d p) :
    ∃ (At Ak : Option Addr) (nt nk ct ck : Nat) (l : List Ter) (m : List Knd) (a b c d e : Int), v = rv (.slice At nt ct) (.slice Ak nk ck) a b c d e ∧ RulIn W At Ak nt nk l m ∧ ∀ x ∈ l, ∀ z ∈ x.cost, -9223372036854775808 ≤ z ∧ z ≤ 9223372036854775807 := by
  obtain ⟨cs, n, rfl, hl, hf⟩ := open_fields Tryz.underlying25 (by kernel_rfl) cellsRul rfl hv h
  obtain ⟨At, Ak, nt, nk, ct, ck, l, m, a, b, c, d, e, rfl, h1, h2⟩ := rules_cells (n := n) hl (by rw [Tryz.underlying25]; exact hf)
  exact ⟨At, Ak, nt, nk, ct, ck, l, m, a, b, c, d, e, rfl, h1, h2⟩

end Go.Proofs.YtmolpkjdjkhnpabGreatDoor

/-
  The laws' functions on boards: sizes, copies in memory of their own, the comparison of two that hold the same; an argument of type Board. Nothing that was there is changed.
-/
namespace Go.Proofs.YtmolpkjdjkhnpabGreatDoor
open Go.ChangeShapes Go.WideShapes Go.ChangeAt Go.RowKit Go.Joins Go.Deep

def mapSm (lt lr ld : List Int) : Prop := lt.length ≤ 1048576 ∧ lr.length ≤ 1048576 ∧ ld.length ≤ 1048576
theorem Reads.lists' {w : World} {t r d : Value} {lt lr ld : List Int} (h : Reads w t r d lt lr ld) (s : mapSm lt lr ld) : Lists w t r d lt lr ld :=
  ⟨h.rt, h.rr, h.rd, s.1, s.2.1, s.2.2, h.it, h.ir, h.id⟩
theorem Reads.keep {w w' : World} {t r d : Value} {lt lr ld : List Int} (h : Reads w t r d lt lr ld) (k : Kp w w') : Reads w' t r d lt lr ld :=
  ⟨h.rt.keep k, h.rr.keep k, h.rd.keep k, h.bt, h.br, h.bd, h.it, h.ir, h.id⟩

set_option maxHeartbeats 1000000 in
theorem szMap_gen (W H : Int) (At Ar Ad : Option Addr) (nt ct nr cr nd cd : Nat) (left : Int) (w : World) (h0 : 0 ≤ left) (hL : left ≤ 1048576) (h1 : nt ≤ 9223372036854775807) (h2 : nr ≤ 9223372036854775807) (h3 : nd ≤ 9223372036854775807) :
    Calls Tryz.prog 10 #[mp W H (.slice At nt ct) (.slice Ar nr cr) (.slice Ad nd cd), .int .i64 left] w (SzPost (nt ≤ 1048576 ∧ nr ≤ 1048576 ∧ nd ≤ 1048576) w) := by
  by_cases a1 : (nt : Int) ≤ left
  · by_cases a2 : (nr : Int) ≤ left - nt
    · by_cases a3 : (nd : Int) ≤ left - nt - nr
      · go_enter Tryz.func10, Tryz.ntmps10
        go_wp2_with fail
        refine (szIntS_yes _ _ _ _ _ (by omega) (by omega) (by omega)).mono ?_
        rintro e1 w1 ⟨rfl, rfl⟩
        go_wp2_with fail
        refine (szIntS_yes _ _ _ _ _ (by omega) (by omega) (by omega)).mono ?_
        rintro e1 w1 ⟨rfl, rfl⟩
        go_wp2_with fail
        refine (szIntS_yes _ _ _ _ _ (by omega) (by omega) (by omega)).mono ?_
        rintro e1 w1 ⟨rfl, rfl⟩
        go_wp2_with fail
        go_ret
        exact ⟨_, rfl, by omega, by omega, fun _ => ⟨by omega, by omega, by omega⟩, (Kp.refl _).alloc _⟩
      · go_enter Tryz.func10, Tryz.ntmps10
        go_wp2_with fail
        refine (szIntS_yes _ _ _ _ _ (by omega) (by omega) (by omega)).mono ?_
        rintro e1 w1 ⟨rfl, rfl⟩
        go_wp2_with fail
        refine (szIntS_yes _ _ _ _ _ (by omega) (by omega) (by omega)).mono ?_
        rintro e1 w1 ⟨rfl, rfl⟩
        go_wp2_with fail
        refine (szIntS_no _ _ _ _ _ (by omega) (by omega) (by omega) (by omega)).mono ?_
        rintro e1 w1 ⟨rfl, rfl⟩
        go_wp2_with fail
        go_ret
        exact ⟨_, rfl, by omega, by omega, fun h => absurd h (by omega), (Kp.refl _).alloc _⟩
    · go_enter Tryz.func10, Tryz.ntmps10
      go_wp2_with fail
      refine (szIntS_yes _ _ _ _ _ (by omega) (by omega) (by omega)).mono ?_
      rintro e1 w1 ⟨rfl, rfl⟩
      go_wp2_with fail
      refine (szIntS_no _ _ _ _ _ (by omega) (by omega) (by omega) (by omega)).mono ?_
      rintro e1 w1 ⟨rfl, rfl⟩
      go_wp2_with fail
      go_ret
      exact ⟨_, rfl, by omega, by omega, fun h => absurd h (by omega), (Kp.refl _).alloc _⟩
  · go_enter Tryz.func10, Tryz.ntmps10
    go_wp2_with fail
    refine (szIntS_no _ _ _ _ _ (by omega) (by omega) (by omega) (by omega)).mono ?_
    rintro e1 w1 ⟨rfl, rfl⟩
    go_wp2_with fail
    go_ret
    exact ⟨_, rfl, by omega, by omega, fun h => absurd h (by omega), (Kp.refl _).alloc _⟩

/-- What an argument's board is: rules and three lists, within Go's own bounds. -/
structure BrdIn (w : World) (At Ak : Option Addr) (nt nk : Nat) (l : List Ter) (m : List Knd) (x r y : Value) (lt lr ld : List Int) : Prop where
  R : RulIn w At Ak nt nk l m
  L : Reads w x r y lt lr ld
theorem BrdIn.keep {w w' : World} {At Ak : Option Addr} {nt nk : Nat} {l : List Ter} {m : List Knd} {x r y : Value} {lt lr ld : List Int} (h : BrdIn w At Ak nt nk l m x r y lt lr ld) (k : Kp w w') : BrdIn w' At Ak nt nk l m x r y lt lr ld :=
  ⟨h.R.keep k, h.L.keep k⟩
def brdSm (nt nk : Nat) (l : List Ter) (m : List Knd) (lt lr ld : List Int) : Prop := rulSm nt nk l m ∧ mapSm lt lr ld
theorem BrdIn.at {w : World} {At Ak : Option Addr} {nt nk : Nat} {l : List Ter} {m : List Knd} {x r y : Value} {lt lr ld : List Int} (h : BrdIn w At Ak nt nk l m x r y lt lr ld) (s : brdSm nt nk l m lt lr ld) : BrdAt w At Ak nt nk l m x r y lt lr ld :=
  ⟨h.R.at s.1, h.L.lists' s.2⟩

set_option maxRecDepth 100000 in
set_option maxHeartbeats 4000000 in
theorem szBoard_any (At Ak : Option Addr) (nt nk ct ck : Nat) (l : List Ter) (m : List Knd) (a b c d e W H : Int) (x r y : Value) (lt lr ld : List Int) (left : Int) (w : World) (h : BrdIn w At Ak nt nk l m x r y lt lr ld) (h0 : 0 ≤ left) (hL : left ≤ 1048576) :
    Calls Tryz.prog 4 #[bv (.slice At nt ct) (.slice Ak nk ck) a b c d e W H x r y, .int .i64 left] w (SzPost (brdSm nt nk l m lt lr ld) w) := by
  have KA : Kp w (w.alloc (.cells #[.slice At nt ct, .slice Ak nk ck, .int .i64 a, .int .i64 b, .int .i64 c, .int .i64 d, .int .i64 e, .int .i64 W, .int .i64 H, x, r, y] 30)) := (Kp.refl w).alloc _
  have s0 : (w.alloc (.cells #[.slice At nt ct, .slice Ak nk ck, .int .i64 a, .int .i64 b, .int .i64 c, .int .i64 d, .int .i64 e, .int .i64 W, .int .i64 H, x, r, y] 30)).cell? ⟨w.heap.size, 0, none⟩ = some (.slice At nt ct) ∧ (w.alloc (.cells #[.slice At nt ct, .slice Ak nk ck, .int .i64 a, .int .i64 b, .int .i64 c, .int .i64 d, .int .i64 e, .int .i64 W, .int .i64 H, x, r, y] 30)).cell? ⟨w.heap.size, 1, none⟩ = some (.slice Ak nk ck) ∧ (w.alloc (.cells #[.slice At nt ct, .slice Ak nk ck, .int .i64 a, .int .i64 b, .int .i64 c, .int .i64 d, .int .i64 e, .int .i64 W, .int .i64 H, x, r, y] 30)).cell? ⟨w.heap.size, 2, none⟩ = some (.int .i64 a) ∧ (w.alloc (.cells #[.slice At nt ct, .slice Ak nk ck, .int .i64 a, .int .i64 b, .int .i64 c, .int .i64 d, .int .i64 e, .int .i64 W, .int .i64 H, x, r, y] 30)).cell? ⟨w.heap.size, 3, none⟩ = some (.int .i64 b) ∧ (w.alloc (.cells #[.slice At nt ct, .slice Ak nk ck, .int .i64 a, .int .i64 b, .int .i64 c, .int .i64 d, .int .i64 e, .int .i64 W, .int .i64 H, x, r, y] 30)).cell? ⟨w.heap.size, 4, none⟩ = some (.int .i64 c) ∧ (w.alloc (.cells #[.slice At nt ct, .slice Ak nk ck, .int .i64 a, .int .i64 b, .int .i64 c, .int .i64 d, .int .i64 e, .int .i64 W, .int .i64 H, x, r, y] 30)).cell? ⟨w.heap.size, 5, none⟩ = some (.int .i64 d) ∧ (w.alloc (.cells #[.slice At nt ct, .slice Ak nk ck, .int .i64 a, .int .i64 b, .int .i64 c, .int .i64 d, .int .i64 e, .int .i64 W, .int .i64 H, x, r, y] 30)).cell? ⟨w.heap.size, 6, none⟩ = some (.int .i64 e) ∧ (w.alloc (.cells #[.slice At nt ct, .slice Ak nk ck, .int .i64 a, .int .i64 b, .int .i64 c, .int .i64 d, .int .i64 e, .int .i64 W, .int .i64 H, x, r, y] 30)).cell? ⟨w.heap.size, 7, none⟩ = some (.int .i64 W) ∧ (w.alloc (.cells #[.slice At nt ct, .slice Ak nk ck, .int .i64 a, .int .i64 b, .int .i64 c, .int .i64 d, .int .i64 e, .int .i64 W, .int .i64 H, x, r, y] 30)).cell? ⟨w.heap.size, 8, none⟩ = some (.int .i64 H) ∧ (w.alloc (.cells #[.slice At nt ct, .slice Ak nk ck, .int .i64 a, .int .i64 b, .int .i64 c, .int .i64 d, .int .i64 e, .int .i64 W, .int .i64 H, x, r, y] 30)).cell? ⟨w.heap.size, 9, none⟩ = some (x) ∧ (w.alloc (.cells #[.slice At nt ct, .slice Ak nk ck, .int .i64 a, .int .i64 b, .int .i64 c, .int .i64 d, .int .i64 e, .int .i64 W, .int .i64 H, x, r, y] 30)).cell? ⟨w.heap.size, 10, none⟩ = some (r) ∧ (w.alloc (.cells #[.slice At nt ct, .slice Ak nk ck, .int .i64 a, .int .i64 b, .int .i64 c, .int .i64 d, .int .i64 e, .int .i64 W, .int .i64 H, x, r, y] 30)).cell? ⟨w.heap.size, 11, none⟩ = some (y) := ⟨by simp [go_sem], by simp [go_sem], by simp [go_sem], by simp [go_sem], by simp [go_sem], by simp [go_sem], by simp [go_sem], by simp [go_sem], by simp [go_sem], by simp [go_sem], by simp [go_sem], by simp [go_sem]⟩
  have HR := Lib.hid (h.R.keep KA)
  have bt := h.L.bt
  have br := h.L.br
  have bd := h.L.bd
  have C2 : Hid (∀ (left : Int) (w : World), 0 ≤ left → left ≤ 1048576 → Calls Tryz.prog 10 #[mp W H x r y, .int .i64 left] w (SzPost (mapSm lt lr ld) w)) := Lib.hid fun left w h0 h1 => by
    obtain ⟨A1, c1, rfl⟩ := h.L.rt.shape
    obtain ⟨A2, c2, rfl⟩ := h.L.rr.shape
    obtain ⟨A3, c3, rfl⟩ := h.L.rd.shape
    exact szMap_gen W H A1 A2 A3 _ c1 _ c2 _ c3 left w h0 h1 bt br bd
  clear h
  go_enter Tryz.func4, Tryz.ntmps4
  go_wp2_with fail
  refine (szRules_any _ _ _ _ _ _ l m _ _ _ _ _ _ _ HR.out h0 hL).mono ?_
  rintro e1 w1 ⟨r1, rfl, u1, u2, u3, k1⟩
  have s1 := keepb12 k1 s0
  have U3 := Lib.hid u3
  have K1 := KA.trans k1
  clear s0 k1 u3
  by_cases hneg : r1 < 0
  · go_wp2_with fail
    go_ret
    exact ⟨_, rfl, by omega, by omega, fun h => absurd h (by omega), K1⟩
  · go_wp2_with fail
    refine (C2.out _ _ (by omega) u1).mono ?_
    rintro e2 w2 ⟨r2, rfl, v1, v2, v3, k2⟩
    have V3 := Lib.hid v3
    clear v3
    by_cases hneg2 : r2 < 0
    · go_wp2_with fail
      go_ret
      exact ⟨_, rfl, by omega, by omega, fun h => absurd h (by omega), K1.trans k2⟩
    · go_wp2_with fail
      go_ret
      exact ⟨_, rfl, v1, v2, fun _ => ⟨U3.out (by omega), V3.out (by omega)⟩, K1.trans k2⟩

theorem OwnR.far {w : World} {base g1 g2 nt nk : Nat} {l : List Ter} {m : List Knd} {cs : List (Option Addr × Nat)} {ys zs : List Value} (h : OwnR w base g1 g2 nt nk l m cs ys zs) {b j : Nat} (hb : b < base) (u : Value) : OwnR (w.setCell ⟨b, j, none⟩ u) base g1 g2 nt nk l m cs ys zs :=
  ⟨h.t.far (Nat.lt_of_lt_of_le hb h.b) u, h.k.far (by have := h.b; have := h.g; omega) u, h.lc, h.lt, h.lk, h.b, h.g, by simpa using h.z, h.mid⟩
theorem OwnR.base {w : World} {base b g1 g2 nt nk : Nat} {l : List Ter} {m : List Knd} {cs : List (Option Addr × Nat)} {ys zs : List Value} (h : OwnR w base g1 g2 nt nk l m cs ys zs) (hb : b ≤ base) : OwnR w b g1 g2 nt nk l m cs ys zs :=
  ⟨h.t, h.k, h.lc, h.lt, h.lk, by have := h.b; omega, h.g, h.z, h.mid⟩
theorem Own3.far {w : World} {base : Nat} {t r d : Value} {lt lr ld : List Int} (h : Own3 w base t r d lt lr ld) {b j : Nat} (hb : b < base) (u : Value) : Own3 (w.setCell ⟨b, j, none⟩ u) base t r d lt lr ld :=
  ⟨h.ot.far (h.ot.not hb) u, h.or.far (h.or.not hb) u, h.od.far (h.od.not hb) u, h.tr, h.td, h.rd⟩
theorem Own3.base {w : World} {base b : Nat} {t r d : Value} {lt lr ld : List Int} (h : Own3 w base t r d lt lr ld) (hb : b ≤ base) : Own3 w b t r d lt lr ld :=
  ⟨h.ot.base hb, h.or.base hb, h.od.base hb, h.tr, h.td, h.rd⟩
/-- A copied board: rules, and a map's lists behind them. -/
structure OwnBrd (w : World) (base g1 g2 nt nk : Nat) (l : List Ter) (m : List Knd) (cs : List (Option Addr × Nat)) (ys zs : List Value) (x r y : Value) (lt lr ld : List Int) : Prop where
  R : OwnR w base g1 g2 nt nk l m cs ys zs
  M : Own3 w (g2 + 1) x r y lt lr ld
theorem OwnBrd.keep {w w' : World} {base g1 g2 nt nk : Nat} {l : List Ter} {m : List Knd} {cs : List (Option Addr × Nat)} {ys zs : List Value} {x r y : Value} {lt lr ld : List Int} (h : OwnBrd w base g1 g2 nt nk l m cs ys zs x r y lt lr ld) (k : Kp w w') : OwnBrd w' base g1 g2 nt nk l m cs ys zs x r y lt lr ld :=
  ⟨h.R.keep k, h.M.keep k⟩
theorem OwnBrd.at {w w0 : World} {At Ak : Option Addr} {base g1 g2 nt nk : Nat} {l : List Ter} {m : List Knd} {cs : List (Option Addr × Nat)} {ys zs : List Value} {x r y x0 r0 y0 : Value} {lt lr ld : List Int} (h : OwnBrd w base g1 g2 nt nk l m cs ys zs x r y lt lr ld) (b : BrdAt w0 At Ak nt nk l m x0 r0 y0 lt lr ld) : BrdAt w (some ⟨g1, 0, none⟩) (some ⟨g2, 0, none⟩) nt nk l m x r y lt lr ld :=
  ⟨h.R.rul b.R, h.M.lists b.L⟩

abbrev Live12 (w : World) (b : Nat) (v0 v1 v2 v3 v4 v5 v6 v7 v8 v9 v10 v11 : Value) : Prop :=
  (w.cell? ⟨b, 0, none⟩ = some v0 ∧ w.frozen? ⟨b, 0, none⟩ = false) ∧ (w.cell? ⟨b, 1, none⟩ = some v1 ∧ w.frozen? ⟨b, 1, none⟩ = false) ∧ (w.cell? ⟨b, 2, none⟩ = some v2 ∧ w.frozen? ⟨b, 2, none⟩ = false) ∧ (w.cell? ⟨b, 3, none⟩ = some v3 ∧ w.frozen? ⟨b, 3, none⟩ = false) ∧ (w.cell? ⟨b, 4, none⟩ = some v4 ∧ w.frozen? ⟨b, 4, none⟩ = false) ∧ (w.cell? ⟨b, 5, none⟩ = some v5 ∧ w.frozen? ⟨b, 5, none⟩ = false) ∧ (w.cell? ⟨b, 6, none⟩ = some v6 ∧ w.frozen? ⟨b, 6, none⟩ = false) ∧ (w.cell? ⟨b, 7, none⟩ = some v7 ∧ w.frozen? ⟨b, 7, none⟩ = false) ∧ (w.cell? ⟨b, 8, none⟩ = some v8 ∧ w.frozen? ⟨b, 8, none⟩ = false) ∧ (w.cell? ⟨b, 9, none⟩ = some v9 ∧ w.frozen? ⟨b, 9, none⟩ = false) ∧ (w.cell? ⟨b, 10, none⟩ = some v10 ∧ w.frozen? ⟨b, 10, none⟩ = false) ∧ (w.cell? ⟨b, 11, none⟩ = some v11 ∧ w.frozen? ⟨b, 11, none⟩ = false)
theorem live12_keep {w w' : World} {b : Nat} {v0 v1 v2 v3 v4 v5 v6 v7 v8 v9 v10 v11 : Value} (k : Kp w w') (h : Live12 w b v0 v1 v2 v3 v4 v5 v6 v7 v8 v9 v10 v11) : Live12 w' b v0 v1 v2 v3 v4 v5 v6 v7 v8 v9 v10 v11 :=
  ⟨k.liv h.1, k.liv h.2.1, k.liv h.2.2.1, k.liv h.2.2.2.1, k.liv h.2.2.2.2.1, k.liv h.2.2.2.2.2.1, k.liv h.2.2.2.2.2.2.1, k.liv h.2.2.2.2.2.2.2.1, k.liv h.2.2.2.2.2.2.2.2.1, k.liv h.2.2.2.2.2.2.2.2.2.1, k.liv h.2.2.2.2.2.2.2.2.2.2.1, k.liv h.2.2.2.2.2.2.2.2.2.2.2⟩


set_option maxRecDepth 100000 in
set_option maxHeartbeats 8000000 in
theorem toBoard_any (At Ak : Option Addr) (nt nk ct ck : Nat) (l : List Ter) (m : List Knd) (a b c d e W H : Int) (x r y : Value) (lt lr ld : List Int) (mt mr md : Nat) (w : World) (h : BrdAt w At Ak nt nk l m x r y lt lr ld) (e1 : lt.length = mt) (e2 : lr.length = mr) (e3 : ld.length = md) :
    Calls Tryz.prog 6 #[bv (.slice At nt ct) (.slice Ak nk ck) a b c d e W H x r y] w fun e' w' => ∃ (g1 g2 : Nat) (cs : List (Option Addr × Nat)) (ys zs : List Value) (A1 : Option Addr) (c1 : Nat) (A2 : Option Addr) (c2 : Nat) (A3 : Option Addr) (c3 : Nat), e' = .returned (bv (.slice (some ⟨g1, 0, none⟩) nt nt) (.slice (some ⟨g2, 0, none⟩) nk nk) a b c d e W H (.slice A1 mt c1) (.slice A2 mr c2) (.slice A3 md c3)) ∧ OwnBrd w' w.heap.size g1 g2 nt nk l m cs ys zs (.slice A1 mt c1) (.slice A2 mr c2) (.slice A3 md c3) lt lr ld ∧ Kp w w' := by
  have HB := Lib.hid h
  have k0 : Kp w (((w.alloc (.cells #[.slice At nt ct, .slice Ak nk ck, .int .i64 a, .int .i64 b, .int .i64 c, .int .i64 d, .int .i64 e, .int .i64 W, .int .i64 H, x, r, y] 30)).alloc (.cells #[.slice none 0 0, .slice none 0 0, .int .i64 0, .int .i64 0, .int .i64 0, .int .i64 0, .int .i64 0, .int .i64 0, .int .i64 0, .slice none 0 0, .slice none 0 0, .slice none 0 0] 40)).alloc (.cells #[.slice none 0 0, .slice none 0 0, .int .i64 0, .int .i64 0, .int .i64 0, .int .i64 0, .int .i64 0, .int .i64 0, .int .i64 0, .slice none 0 0, .slice none 0 0, .slice none 0 0] 40)) := (((Kp.refl w).alloc _).alloc _).alloc _
  have CT := Lib.hid (fun w (h : Lists w x r y lt lr ld) => toMap_sl W H x r y lt lr ld mt mr md w h e1 e2 e3)
  clear h e1 e2 e3
  go_enter Tryz.func6, Tryz.ntmps6
  go_wp2_with fail
  refine (toRules_any _ _ _ _ _ _ l m _ _ _ _ _ _ (HB.out.keep k0).R).mono ?_
  rintro e1 w1 ⟨g1, g2, cs, ys, zs, rfl, o1, k1⟩
  have a7 : w1.cell? ⟨w.heap.size, 7, none⟩ = some (.int .i64 W) := k1.cell (by simp [go_sem])
  have a8 : w1.cell? ⟨w.heap.size, 8, none⟩ = some (.int .i64 H) := k1.cell (by simp [go_sem])
  have a9 : w1.cell? ⟨w.heap.size, 9, none⟩ = some (x) := k1.cell (by simp [go_sem])
  have a10 : w1.cell? ⟨w.heap.size, 10, none⟩ = some (r) := k1.cell (by simp [go_sem])
  have a11 : w1.cell? ⟨w.heap.size, 11, none⟩ = some (y) := k1.cell (by simp [go_sem])
  have L1 : Live12 w1 (w.heap.size + 1) (.slice none 0 0) (.slice none 0 0) (.int .i64 0) (.int .i64 0) (.int .i64 0) (.int .i64 0) (.int .i64 0) (.int .i64 0) (.int .i64 0) (.slice none 0 0) (.slice none 0 0) (.slice none 0 0) := live12_keep k1 ⟨by simp [go_sem], by simp [go_sem], by simp [go_sem], by simp [go_sem], by simp [go_sem], by simp [go_sem], by simp [go_sem], by simp [go_sem], by simp [go_sem], by simp [go_sem], by simp [go_sem], by simp [go_sem]⟩
  have M1 : Live12 w1 (w.heap.size + 1 + 1) (.slice none 0 0) (.slice none 0 0) (.int .i64 0) (.int .i64 0) (.int .i64 0) (.int .i64 0) (.int .i64 0) (.int .i64 0) (.int .i64 0) (.slice none 0 0) (.slice none 0 0) (.slice none 0 0) := live12_keep k1 ⟨by simp [go_sem], by simp [go_sem], by simp [go_sem], by simp [go_sem], by simp [go_sem], by simp [go_sem], by simp [go_sem], by simp [go_sem], by simp [go_sem], by simp [go_sem], by simp [go_sem], by simp [go_sem]⟩
  have K1 : Kp w w1 := k0.trans k1
  have eg : (((w.alloc (.cells #[.slice At nt ct, .slice Ak nk ck, .int .i64 a, .int .i64 b, .int .i64 c, .int .i64 d, .int .i64 e, .int .i64 W, .int .i64 H, x, r, y] 30)).alloc (.cells #[.slice none 0 0, .slice none 0 0, .int .i64 0, .int .i64 0, .int .i64 0, .int .i64 0, .int .i64 0, .int .i64 0, .int .i64 0, .slice none 0 0, .slice none 0 0, .slice none 0 0] 40)).alloc (.cells #[.slice none 0 0, .slice none 0 0, .int .i64 0, .int .i64 0, .int .i64 0, .int .i64 0, .int .i64 0, .int .i64 0, .int .i64 0, .slice none 0 0, .slice none 0 0, .slice none 0 0] 40)).heap.size = w.heap.size + 3 := by simp
  rw [eg] at o1
  have z1 : w.heap.size + 3 < w1.heap.size := by have := o1.b; have := o1.g; have := o1.z; omega
  have z1b : g2 < w1.heap.size := o1.z
  have O1 := Lib.hid o1
  clear k0 k1 o1 eg
  go_wp2_with fail
  have K1' : Kp w (((((((w1.setCell ⟨w.heap.size + 1 + 1, 0, none⟩ (.slice (some ⟨g1, 0, none⟩) nt nt)).setCell ⟨w.heap.size + 1 + 1, 1, none⟩ (.slice (some ⟨g2, 0, none⟩) nk nk)).setCell ⟨w.heap.size + 1 + 1, 2, none⟩ (.int .i64 a)).setCell ⟨w.heap.size + 1 + 1, 3, none⟩ (.int .i64 b)).setCell ⟨w.heap.size + 1 + 1, 4, none⟩ (.int .i64 c)).setCell ⟨w.heap.size + 1 + 1, 5, none⟩ (.int .i64 d)).setCell ⟨w.heap.size + 1 + 1, 6, none⟩ (.int .i64 e)) := (((((((K1.setCell (by simp <;> omega) _).setCell (by simp <;> omega) _).setCell (by simp <;> omega) _).setCell (by simp <;> omega) _).setCell (by simp <;> omega) _).setCell (by simp <;> omega) _).setCell (by simp <;> omega) _)
  refine (CT.out _ (HB.out.keep K1').L).mono ?_
  rintro e2 w2 ⟨A1, c1, A2, c2, A3, c3, rfl, o2, k2⟩
  have L2 : Live12 w2 (w.heap.size + 1) (.slice none 0 0) (.slice none 0 0) (.int .i64 0) (.int .i64 0) (.int .i64 0) (.int .i64 0) (.int .i64 0) (.int .i64 0) (.int .i64 0) (.slice none 0 0) (.slice none 0 0) (.slice none 0 0) := live12_keep k2 ⟨by simp [go_sem, *], by simp [go_sem, *], by simp [go_sem, *], by simp [go_sem, *], by simp [go_sem, *], by simp [go_sem, *], by simp [go_sem, *], by simp [go_sem, *], by simp [go_sem, *], by simp [go_sem, *], by simp [go_sem, *], by simp [go_sem, *]⟩
  have M2 : Live12 w2 (w.heap.size + 1 + 1) (.slice (some ⟨g1, 0, none⟩) nt nt) (.slice (some ⟨g2, 0, none⟩) nk nk) (.int .i64 a) (.int .i64 b) (.int .i64 c) (.int .i64 d) (.int .i64 e) (.int .i64 0) (.int .i64 0) (.slice none 0 0) (.slice none 0 0) (.slice none 0 0) := live12_keep k2 ⟨by simp [go_sem, *], by simp [go_sem, *], by simp [go_sem, *], by simp [go_sem, *], by simp [go_sem, *], by simp [go_sem, *], by simp [go_sem, *], by simp [go_sem, *], by simp [go_sem, *], by simp [go_sem, *], by simp [go_sem, *], by simp [go_sem, *]⟩
  have K2 : Kp w w2 := K1'.trans k2
  have O2 := Lib.hid ((((((((O1.out.far (by omega) _).far (by omega) _).far (by omega) _).far (by omega) _).far (by omega) _).far (by omega) _).far (by omega) _).keep k2)
  have eg : (((((((w1.setCell ⟨w.heap.size + 1 + 1, 0, none⟩ (.slice (some ⟨g1, 0, none⟩) nt nt)).setCell ⟨w.heap.size + 1 + 1, 1, none⟩ (.slice (some ⟨g2, 0, none⟩) nk nk)).setCell ⟨w.heap.size + 1 + 1, 2, none⟩ (.int .i64 a)).setCell ⟨w.heap.size + 1 + 1, 3, none⟩ (.int .i64 b)).setCell ⟨w.heap.size + 1 + 1, 4, none⟩ (.int .i64 c)).setCell ⟨w.heap.size + 1 + 1, 5, none⟩ (.int .i64 d)).setCell ⟨w.heap.size + 1 + 1, 6, none⟩ (.int .i64 e)).heap.size = w1.heap.size := by simp
  rw [eg] at o2
  have P2 := Lib.hid o2
  have z2 : w.heap.size + 3 ≤ w2.heap.size := by have := k2.size; rw [eg] at this; omega
  clear K1' k2 o2 a7 a8 a9 a10 a11 L1 M1 K1 O1 eg
  go_wp2_with fail
  refine bodyPost_ret (v := bv (.slice (some ⟨g1, 0, none⟩) nt nt) (.slice (some ⟨g2, 0, none⟩) nk nk) a b c d e W H (.slice A1 mt c1) (.slice A2 mr c2) (.slice A3 md c3)) (by simp [results, Tryz.results6, go_sem, *]) rfl ⟨g1, g2, cs, ys, zs, A1, c1, A2, c2, A3, c3, rfl, ⟨?_, ?_⟩, ?_⟩
  · exact (((((((((((((((((O2.out.far (by omega) _).far (by omega) _).far (by omega) _).far (by omega) _).far (by omega) _).far (by omega) _).far (by omega) _).far (by omega) _).far (by omega) _).far (by omega) _).far (by omega) _).far (by omega) _).far (by omega) _).far (by omega) _).far (by omega) _).far (by omega) _).far (by omega) _).base (by omega)
  · exact (((((((((((((((((P2.out.far (by omega) _).far (by omega) _).far (by omega) _).far (by omega) _).far (by omega) _).far (by omega) _).far (by omega) _).far (by omega) _).far (by omega) _).far (by omega) _).far (by omega) _).far (by omega) _).far (by omega) _).far (by omega) _).far (by omega) _).far (by omega) _).far (by omega) _).base (by omega)
  · exact (((((((((((((((((K2.setCell (by simp <;> omega) _).setCell (by simp <;> omega) _).setCell (by simp <;> omega) _).setCell (by simp <;> omega) _).setCell (by simp <;> omega) _).setCell (by simp <;> omega) _).setCell (by simp <;> omega) _).setCell (by simp <;> omega) _).setCell (by simp <;> omega) _).setCell (by simp <;> omega) _).setCell (by simp <;> omega) _).setCell (by simp <;> omega) _).setCell (by simp <;> omega) _).setCell (by simp <;> omega) _).setCell (by simp <;> omega) _).setCell (by simp <;> omega) _).setCell (by simp <;> omega) _)

set_option maxRecDepth 100000 in
set_option maxHeartbeats 4000000 in
theorem eqBoard_same (At Ak Bt Bk : Option Addr) (nt nk ct ck dt dk : Nat) (l : List Ter) (m : List Knd) (a b c d e W H : Int) (x r y x2 r2 y2 : Value) (lt lr ld : List Int) (w : World) (hA : BrdAt w At Ak nt nk l m x r y lt lr ld) (hB : BrdAt w Bt Bk nt nk l m x2 r2 y2 lt lr ld) :
    Calls Tryz.prog 8 #[bv (.slice At nt ct) (.slice Ak nk ck) a b c d e W H x r y, bv (.slice Bt nt dt) (.slice Bk nk dk) a b c d e W H x2 r2 y2] w fun e' w' => e' = .returned (.bool true) ∧ Kp w w' := by
  have KA : Kp w ((w.alloc (.cells #[.slice At nt ct, .slice Ak nk ck, .int .i64 a, .int .i64 b, .int .i64 c, .int .i64 d, .int .i64 e, .int .i64 W, .int .i64 H, x, r, y] 40)).alloc (.cells #[.slice Bt nt dt, .slice Bk nk dk, .int .i64 a, .int .i64 b, .int .i64 c, .int .i64 d, .int .i64 e, .int .i64 W, .int .i64 H, x2, r2, y2] 40)) := ((Kp.refl w).alloc _).alloc _
  have sA : ((w.alloc (.cells #[.slice At nt ct, .slice Ak nk ck, .int .i64 a, .int .i64 b, .int .i64 c, .int .i64 d, .int .i64 e, .int .i64 W, .int .i64 H, x, r, y] 40)).alloc (.cells #[.slice Bt nt dt, .slice Bk nk dk, .int .i64 a, .int .i64 b, .int .i64 c, .int .i64 d, .int .i64 e, .int .i64 W, .int .i64 H, x2, r2, y2] 40)).cell? ⟨w.heap.size, 0, none⟩ = some (.slice At nt ct) ∧ ((w.alloc (.cells #[.slice At nt ct, .slice Ak nk ck, .int .i64 a, .int .i64 b, .int .i64 c, .int .i64 d, .int .i64 e, .int .i64 W, .int .i64 H, x, r, y] 40)).alloc (.cells #[.slice Bt nt dt, .slice Bk nk dk, .int .i64 a, .int .i64 b, .int .i64 c, .int .i64 d, .int .i64 e, .int .i64 W, .int .i64 H, x2, r2, y2] 40)).cell? ⟨w.heap.size, 1, none⟩ = some (.slice Ak nk ck) ∧ ((w.alloc (.cells #[.slice At nt ct, .slice Ak nk ck, .int .i64 a, .int .i64 b, .int .i64 c, .int .i64 d, .int .i64 e, .int .i64 W, .int .i64 H, x, r, y] 40)).alloc (.cells #[.slice Bt nt dt, .slice Bk nk dk, .int .i64 a, .int .i64 b, .int .i64 c, .int .i64 d, .int .i64 e, .int .i64 W, .int .i64 H, x2, r2, y2] 40)).cell? ⟨w.heap.size, 2, none⟩ = some (.int .i64 a) ∧ ((w.alloc (.cells #[.slice At nt ct, .slice Ak nk ck, .int .i64 a, .int .i64 b, .int .i64 c, .int .i64 d, .int .i64 e, .int .i64 W, .int .i64 H, x, r, y] 40)).alloc (.cells #[.slice Bt nt dt, .slice Bk nk dk, .int .i64 a, .int .i64 b, .int .i64 c, .int .i64 d, .int .i64 e, .int .i64 W, .int .i64 H, x2, r2, y2] 40)).cell? ⟨w.heap.size, 3, none⟩ = some (.int .i64 b) ∧ ((w.alloc (.cells #[.slice At nt ct, .slice Ak nk ck, .int .i64 a, .int .i64 b, .int .i64 c, .int .i64 d, .int .i64 e, .int .i64 W, .int .i64 H, x, r, y] 40)).alloc (.cells #[.slice Bt nt dt, .slice Bk nk dk, .int .i64 a, .int .i64 b, .int .i64 c, .int .i64 d, .int .i64 e, .int .i64 W, .int .i64 H, x2, r2, y2] 40)).cell? ⟨w.heap.size, 4, none⟩ = some (.int .i64 c) ∧ ((w.alloc (.cells #[.slice At nt ct, .slice Ak nk ck, .int .i64 a, .int .i64 b, .int .i64 c, .int .i64 d, .int .i64 e, .int .i64 W, .int .i64 H, x, r, y] 40)).alloc (.cells #[.slice Bt nt dt, .slice Bk nk dk, .int .i64 a, .int .i64 b, .int .i64 c, .int .i64 d, .int .i64 e, .int .i64 W, .int .i64 H, x2, r2, y2] 40)).cell? ⟨w.heap.size, 5, none⟩ = some (.int .i64 d) ∧ ((w.alloc (.cells #[.slice At nt ct, .slice Ak nk ck, .int .i64 a, .int .i64 b, .int .i64 c, .int .i64 d, .int .i64 e, .int .i64 W, .int .i64 H, x, r, y] 40)).alloc (.cells #[.slice Bt nt dt, .slice Bk nk dk, .int .i64 a, .int .i64 b, .int .i64 c, .int .i64 d, .int .i64 e, .int .i64 W, .int .i64 H, x2, r2, y2] 40)).cell? ⟨w.heap.size, 6, none⟩ = some (.int .i64 e) ∧ ((w.alloc (.cells #[.slice At nt ct, .slice Ak nk ck, .int .i64 a, .int .i64 b, .int .i64 c, .int .i64 d, .int .i64 e, .int .i64 W, .int .i64 H, x, r, y] 40)).alloc (.cells #[.slice Bt nt dt, .slice Bk nk dk, .int .i64 a, .int .i64 b, .int .i64 c, .int .i64 d, .int .i64 e, .int .i64 W, .int .i64 H, x2, r2, y2] 40)).cell? ⟨w.heap.size, 7, none⟩ = some (.int .i64 W) ∧ ((w.alloc (.cells #[.slice At nt ct, .slice Ak nk ck, .int .i64 a, .int .i64 b, .int .i64 c, .int .i64 d, .int .i64 e, .int .i64 W, .int .i64 H, x, r, y] 40)).alloc (.cells #[.slice Bt nt dt, .slice Bk nk dk, .int .i64 a, .int .i64 b, .int .i64 c, .int .i64 d, .int .i64 e, .int .i64 W, .int .i64 H, x2, r2, y2] 40)).cell? ⟨w.heap.size, 8, none⟩ = some (.int .i64 H) ∧ ((w.alloc (.cells #[.slice At nt ct, .slice Ak nk ck, .int .i64 a, .int .i64 b, .int .i64 c, .int .i64 d, .int .i64 e, .int .i64 W, .int .i64 H, x, r, y] 40)).alloc (.cells #[.slice Bt nt dt, .slice Bk nk dk, .int .i64 a, .int .i64 b, .int .i64 c, .int .i64 d, .int .i64 e, .int .i64 W, .int .i64 H, x2, r2, y2] 40)).cell? ⟨w.heap.size, 9, none⟩ = some (x) ∧ ((w.alloc (.cells #[.slice At nt ct, .slice Ak nk ck, .int .i64 a, .int .i64 b, .int .i64 c, .int .i64 d, .int .i64 e, .int .i64 W, .int .i64 H, x, r, y] 40)).alloc (.cells #[.slice Bt nt dt, .slice Bk nk dk, .int .i64 a, .int .i64 b, .int .i64 c, .int .i64 d, .int .i64 e, .int .i64 W, .int .i64 H, x2, r2, y2] 40)).cell? ⟨w.heap.size, 10, none⟩ = some (r) ∧ ((w.alloc (.cells #[.slice At nt ct, .slice Ak nk ck, .int .i64 a, .int .i64 b, .int .i64 c, .int .i64 d, .int .i64 e, .int .i64 W, .int .i64 H, x, r, y] 40)).alloc (.cells #[.slice Bt nt dt, .slice Bk nk dk, .int .i64 a, .int .i64 b, .int .i64 c, .int .i64 d, .int .i64 e, .int .i64 W, .int .i64 H, x2, r2, y2] 40)).cell? ⟨w.heap.size, 11, none⟩ = some (y) := ⟨by simp [go_sem], by simp [go_sem], by simp [go_sem], by simp [go_sem], by simp [go_sem], by simp [go_sem], by simp [go_sem], by simp [go_sem], by simp [go_sem], by simp [go_sem], by simp [go_sem], by simp [go_sem]⟩
  have sB : ((w.alloc (.cells #[.slice At nt ct, .slice Ak nk ck, .int .i64 a, .int .i64 b, .int .i64 c, .int .i64 d, .int .i64 e, .int .i64 W, .int .i64 H, x, r, y] 40)).alloc (.cells #[.slice Bt nt dt, .slice Bk nk dk, .int .i64 a, .int .i64 b, .int .i64 c, .int .i64 d, .int .i64 e, .int .i64 W, .int .i64 H, x2, r2, y2] 40)).cell? ⟨w.heap.size + 1, 0, none⟩ = some (.slice Bt nt dt) ∧ ((w.alloc (.cells #[.slice At nt ct, .slice Ak nk ck, .int .i64 a, .int .i64 b, .int .i64 c, .int .i64 d, .int .i64 e, .int .i64 W, .int .i64 H, x, r, y] 40)).alloc (.cells #[.slice Bt nt dt, .slice Bk nk dk, .int .i64 a, .int .i64 b, .int .i64 c, .int .i64 d, .int .i64 e, .int .i64 W, .int .i64 H, x2, r2, y2] 40)).cell? ⟨w.heap.size + 1, 1, none⟩ = some (.slice Bk nk dk) ∧ ((w.alloc (.cells #[.slice At nt ct, .slice Ak nk ck, .int .i64 a, .int .i64 b, .int .i64 c, .int .i64 d, .int .i64 e, .int .i64 W, .int .i64 H, x, r, y] 40)).alloc (.cells #[.slice Bt nt dt, .slice Bk nk dk, .int .i64 a, .int .i64 b, .int .i64 c, .int .i64 d, .int .i64 e, .int .i64 W, .int .i64 H, x2, r2, y2] 40)).cell? ⟨w.heap.size + 1, 2, none⟩ = some (.int .i64 a) ∧ ((w.alloc (.cells #[.slice At nt ct, .slice Ak nk ck, .int .i64 a, .int .i64 b, .int .i64 c, .int .i64 d, .int .i64 e, .int .i64 W, .int .i64 H, x, r, y] 40)).alloc (.cells #[.slice Bt nt dt, .slice Bk nk dk, .int .i64 a, .int .i64 b, .int .i64 c, .int .i64 d, .int .i64 e, .int .i64 W, .int .i64 H, x2, r2, y2] 40)).cell? ⟨w.heap.size + 1, 3, none⟩ = some (.int .i64 b) ∧ ((w.alloc (.cells #[.slice At nt ct, .slice Ak nk ck, .int .i64 a, .int .i64 b, .int .i64 c, .int .i64 d, .int .i64 e, .int .i64 W, .int .i64 H, x, r, y] 40)).alloc (.cells #[.slice Bt nt dt, .slice Bk nk dk, .int .i64 a, .int .i64 b, .int .i64 c, .int .i64 d, .int .i64 e, .int .i64 W, .int .i64 H, x2, r2, y2] 40)).cell? ⟨w.heap.size + 1, 4, none⟩ = some (.int .i64 c) ∧ ((w.alloc (.cells #[.slice At nt ct, .slice Ak nk ck, .int .i64 a, .int .i64 b, .int .i64 c, .int .i64 d, .int .i64 e, .int .i64 W, .int .i64 H, x, r, y] 40)).alloc (.cells #[.slice Bt nt dt, .slice Bk nk dk, .int .i64 a, .int .i64 b, .int .i64 c, .int .i64 d, .int .i64 e, .int .i64 W, .int .i64 H, x2, r2, y2] 40)).cell? ⟨w.heap.size + 1, 5, none⟩ = some (.int .i64 d) ∧ ((w.alloc (.cells #[.slice At nt ct, .slice Ak nk ck, .int .i64 a, .int .i64 b, .int .i64 c, .int .i64 d, .int .i64 e, .int .i64 W, .int .i64 H, x, r, y] 40)).alloc (.cells #[.slice Bt nt dt, .slice Bk nk dk, .int .i64 a, .int .i64 b, .int .i64 c, .int .i64 d, .int .i64 e, .int .i64 W, .int .i64 H, x2, r2, y2] 40)).cell? ⟨w.heap.size + 1, 6, none⟩ = some (.int .i64 e) ∧ ((w.alloc (.cells #[.slice At nt ct, .slice Ak nk ck, .int .i64 a, .int .i64 b, .int .i64 c, .int .i64 d, .int .i64 e, .int .i64 W, .int .i64 H, x, r, y] 40)).alloc (.cells #[.slice Bt nt dt, .slice Bk nk dk, .int .i64 a, .int .i64 b, .int .i64 c, .int .i64 d, .int .i64 e, .int .i64 W, .int .i64 H, x2, r2, y2] 40)).cell? ⟨w.heap.size + 1, 7, none⟩ = some (.int .i64 W) ∧ ((w.alloc (.cells #[.slice At nt ct, .slice Ak nk ck, .int .i64 a, .int .i64 b, .int .i64 c, .int .i64 d, .int .i64 e, .int .i64 W, .int .i64 H, x, r, y] 40)).alloc (.cells #[.slice Bt nt dt, .slice Bk nk dk, .int .i64 a, .int .i64 b, .int .i64 c, .int .i64 d, .int .i64 e, .int .i64 W, .int .i64 H, x2, r2, y2] 40)).cell? ⟨w.heap.size + 1, 8, none⟩ = some (.int .i64 H) ∧ ((w.alloc (.cells #[.slice At nt ct, .slice Ak nk ck, .int .i64 a, .int .i64 b, .int .i64 c, .int .i64 d, .int .i64 e, .int .i64 W, .int .i64 H, x, r, y] 40)).alloc (.cells #[.slice Bt nt dt, .slice Bk nk dk, .int .i64 a, .int .i64 b, .int .i64 c, .int .i64 d, .int .i64 e, .int .i64 W, .int .i64 H, x2, r2, y2] 40)).cell? ⟨w.heap.size + 1, 9, none⟩ = some (x2) ∧ ((w.alloc (.cells #[.slice At nt ct, .slice Ak nk ck, .int .i64 a, .int .i64 b, .int .i64 c, .int .i64 d, .int .i64 e, .int .i64 W, .int .i64 H, x, r, y] 40)).alloc (.cells #[.slice Bt nt dt, .slice Bk nk dk, .int .i64 a, .int .i64 b, .int .i64 c, .int .i64 d, .int .i64 e, .int .i64 W, .int .i64 H, x2, r2, y2] 40)).cell? ⟨w.heap.size + 1, 10, none⟩ = some (r2) ∧ ((w.alloc (.cells #[.slice At nt ct, .slice Ak nk ck, .int .i64 a, .int .i64 b, .int .i64 c, .int .i64 d, .int .i64 e, .int .i64 W, .int .i64 H, x, r, y] 40)).alloc (.cells #[.slice Bt nt dt, .slice Bk nk dk, .int .i64 a, .int .i64 b, .int .i64 c, .int .i64 d, .int .i64 e, .int .i64 W, .int .i64 H, x2, r2, y2] 40)).cell? ⟨w.heap.size + 1, 11, none⟩ = some (y2) := ⟨by simp [go_sem], by simp [go_sem], by simp [go_sem], by simp [go_sem], by simp [go_sem], by simp [go_sem], by simp [go_sem], by simp [go_sem], by simp [go_sem], by simp [go_sem], by simp [go_sem], by simp [go_sem]⟩
  have HA := Lib.hid (hA.keep KA)
  have HB := Lib.hid (hB.keep KA)
  clear hA hB
  go_enter Tryz.func8, Tryz.ntmps8
  go_wp2_with fail
  refine (eqRules_same _ _ _ _ _ _ _ _ _ _ l m _ _ _ _ _ _ HA.out.R.rt HA.out.R.rk HB.out.R.rt HB.out.R.rk HA.out.R.bt HA.out.R.bk (fun x hx => (HA.out.R.bc x hx).1)).mono ?_
  rintro e1 w1 ⟨rfl, k1⟩
  have tA := keepb12 k1 sA
  have tB := keepb12 k1 sB
  have K1 := KA.trans k1
  have HA1 := Lib.hid (HA.out.keep k1)
  have HB1 := Lib.hid (HB.out.keep k1)
  clear sA sB k1 HA HB
  go_wp2_with fail
  refine (eqMap_same _ _ _ _ _ _ _ _ lt lr ld _ HA1.out.L HB1.out.L).mono ?_
  rintro e2 w2 ⟨rfl, k2⟩
  go_wp2_with fail
  go_ret
  exact ⟨rfl, K1.trans k2⟩

theorem cellsBrd : Tryz.prog.cellsOf 30 = 12 := by kernel_rfl
theorem boardFields : ∃ f0 f1 : Field, Tryz.prog.underlying 30 = some (.struct #[f0, f1]) ∧ f0.type = 25 ∧ f1.type = 28 ∧ f0.offset = 0 ∧ f1.offset = 7 :=
  ⟨_, _, Tryz.underlying30, rfl, rfl, rfl, rfl⟩
set_option maxRecDepth 100000 in
/-- Five cells that read as a map. -/
theorem map_cells {H : Type} {enc : TypeId × Value → H} {W : World} {cs : List Value} {n : Nat} (hl : cs.length = 5)
    (hf : ∀ (j : Nat) (f : Field), (match Tryz.prog.underlying 28 with | some (.struct fs) => fs | _ => #[])[j]? = some f → ∃ c y, cs[j]? = some c ∧ DataW.trod enc Tryz.prog W 0 (fun _ => true) true n f.type [c] = some y) :
    ∃ (wd ht : Int) (t r e : Value) (lt lr ld : List Int), cs = [.int .i64 wd, .int .i64 ht, t, r, e] ∧ Reads W t r e lt lr ld := by
  rw [Tryz.underlying28] at hf
  obtain ⟨c0, y0, q0, h0⟩ := hf 0 _ rfl
  obtain ⟨c1, y1, q1, h1⟩ := hf 1 _ rfl
  obtain ⟨c2, y2, q2, h2⟩ := hf 2 _ rfl
  obtain ⟨c3, y3, q3, h3⟩ := hf 3 _ rfl
  obtain ⟨c4, y4, q4, h4⟩ := hf 4 _ rfl
  obtain rfl := five hl q0 q1 q2 q3 q4
  obtain ⟨a, e0, rfl, wa⟩ := DataW.trod_int Tryz.underlying3 h0
  obtain ⟨b, e1, rfl, wb⟩ := DataW.trod_int Tryz.underlying3 h1
  simp only [List.cons.injEq, and_true] at e0 e1
  subst e0 e1
  obtain ⟨lt, r1, r2, r3⟩ := rdB_of_trod h2
  obtain ⟨lr, s1, s2, s3⟩ := rdB_of_trod h3
  obtain ⟨ld, t1, t2, t3⟩ := rdB_of_trod h4
  exact ⟨a, b, c2, c3, c4, lt, lr, ld, rfl, ⟨r1, s1, t1, r2, s2, t2, r3, s3, t3⟩⟩

set_option maxRecDepth 100000 in
/-- Twelve cells that read as a board. -/
theorem board_cells {H : Type} {enc : TypeId × Value → H} {W : World} {cs : List Value} {n : Nat} {y : DataW H × List MemPlace} (hl : cs.length = 12) (hf : DataW.trod enc Tryz.prog W 0 (fun _ => true) true n 30 cs = some y) :
    ∃ (At Ak : Option Addr) (nt nk ct ck : Nat) (l : List Ter) (m : List Knd) (a b c d e W' H' : Int) (x r y : Value) (lt lr ld : List Int), cs = [.slice At nt ct, .slice Ak nk ck, .int .i64 a, .int .i64 b, .int .i64 c, .int .i64 d, .int .i64 e, .int .i64 W', .int .i64 H', x, r, y] ∧ BrdIn W At Ak nt nk l m x r y lt lr ld ∧ ∀ x ∈ l, ∀ z ∈ x.cost, -9223372036854775808 ≤ z ∧ z ≤ 9223372036854775807 := by
  obtain ⟨f0, f1, hu, e0, e1, o0, o1⟩ := boardFields
  obtain ⟨y0, y1, n', hx, hlen, u0, u1⟩ := trod_struct2 hu hf
  rw [e0, o0, cellsRul] at u0
  rw [e1, o1, cellsMap] at u1
  have l0 : ((cs.drop 0).take 7).length = 7 := by simp; omega
  have l1 : ((cs.drop 7).take 5).length = 5 := by simp; omega
  obtain ⟨k0, h0⟩ := fields_of_trod Tryz.underlying25 (by kernel_rfl) rfl l0 u0
  obtain ⟨k1, h1⟩ := fields_of_trod Tryz.underlying28 (by kernel_rfl) rfl l1 u1
  obtain ⟨At, Ak, nt, nk, ct, ck, l, m, a, b, c, d, e, r0, r1, r2⟩ := rules_cells (n := k0) l0 (by rw [Tryz.underlying25]; exact h0)
  obtain ⟨wd, ht, t, r, z, lt, lr, ld, q0, q1⟩ := map_cells (n := k1) l1 (by rw [Tryz.underlying28]; exact h1)
  refine ⟨At, Ak, nt, nk, ct, ck, l, m, a, b, c, d, e, wd, ht, t, r, z, lt, lr, ld, ?_, ⟨r1, q1⟩, r2⟩
  have e5 : (cs.drop 7).take 5 = cs.drop 7 := List.take_of_length_le (by simp; omega)
  rw [e5] at q0
  rw [List.drop_zero] at r0
  rw [← List.take_append_drop 7 cs, r0, q0]
  rfl

set_option maxRecDepth 100000 in
/-- An argument of type Board. -/
theorem open_board {H : Type} {enc : TypeId × Value → H} {W : World} {base : Nat} {v : Value} {d : DataW H} {p : List MemPlace}
    (hv : Value.okWide Tryz.prog W .any base 30 v) (h : DataW.Trod enc Tryz.prog W 0 (fun _ => true) true 30 v d p) :
    ∃ (At Ak : Option Addr) (nt nk ct ck : Nat) (l : List Ter) (m : List Knd) (a b c d e W' H' : Int) (x r y : Value) (lt lr ld : List Int), v = bv (.slice At nt ct) (.slice Ak nk ck) a b c d e W' H' x r y ∧ BrdIn W At Ak nt nk l m x r y lt lr ld ∧ ∀ x ∈ l, ∀ z ∈ x.cost, -9223372036854775808 ≤ z ∧ z ≤ 9223372036854775807 := by
  obtain ⟨⟨cs⟩, rfl, hsz⟩ := okWide_struct Tryz.underlying30 hv
  obtain ⟨fuel, hf⟩ := h
  obtain ⟨At, Ak, nt, nk, ct, ck, l, m, a, b, c, d, e, W', H', x, r, y, lt, lr, ld, e0, h1, h2⟩ := board_cells (cs := cs) (hsz.trans cellsBrd) hf
  exact ⟨At, Ak, nt, nk, ct, ck, l, m, a, b, c, d, e, W', H', x, r, y, lt, lr, ld, by rw [e0], h1, h2⟩

end Go.Proofs.YtmolpkjdjkhnpabGreatDoor

/-
  What the rows' lists say of the ranges and of the table of directions, cell by cell; a world for the witness in which they lie.
-/
namespace Go.Proofs.YtmolpkjdjkhnpabGreatDoor
open Go.ChangeShapes Go.WideShapes Go.ChangeAt Go.RowKit Go.Joins

theorem terrainsG : Tryz.prog.globalNamed "loop.example/g00886/impl.terrainsSpan" = some 2 := by kernel_rfl
theorem terrainsTy : (Tryz.prog.globals[2]?).map (·.type) = some 114 := by kernel_rfl
theorem costG : Tryz.prog.globalNamed "loop.example/g00886/impl.costSpan" = some 9 := by kernel_rfl
theorem costTy : (Tryz.prog.globals[9]?).map (·.type) = some 114 := by kernel_rfl
theorem shiftG : Tryz.prog.globalNamed "loop.example/g00886/impl.shiftSpan" = some 10 := by kernel_rfl
theorem shiftTy : (Tryz.prog.globals[10]?).map (·.type) = some 114 := by kernel_rfl
theorem heightG : Tryz.prog.globalNamed "loop.example/g00886/impl.heightSpan" = some 11 := by kernel_rfl
theorem heightTy : (Tryz.prog.globals[11]?).map (·.type) = some 114 := by kernel_rfl
theorem kindsG : Tryz.prog.globalNamed "loop.example/g00886/impl.kindsSpan" = some 3 := by kernel_rfl
theorem kindsTy : (Tryz.prog.globals[3]?).map (·.type) = some 114 := by kernel_rfl
theorem strengthG : Tryz.prog.globalNamed "loop.example/g00886/impl.strengthSpan" = some 12 := by kernel_rfl
theorem strengthTy : (Tryz.prog.globals[12]?).map (·.type) = some 114 := by kernel_rfl
theorem movesG : Tryz.prog.globalNamed "loop.example/g00886/impl.movesSpan" = some 13 := by kernel_rfl
theorem movesTy : (Tryz.prog.globals[13]?).map (·.type) = some 114 := by kernel_rfl
theorem stepsG : Tryz.prog.globalNamed "loop.example/g00886/impl.stepsSpan" = some 14 := by kernel_rfl
theorem stepsTy : (Tryz.prog.globals[14]?).map (·.type) = some 114 := by kernel_rfl
theorem viewG : Tryz.prog.globalNamed "loop.example/g00886/impl.viewSpan" = some 15 := by kernel_rfl
theorem viewTy : (Tryz.prog.globals[15]?).map (·.type) = some 114 := by kernel_rfl
theorem stackG : Tryz.prog.globalNamed "loop.example/g00886/impl.stackSpan" = some 4 := by kernel_rfl
theorem stackTy : (Tryz.prog.globals[4]?).map (·.type) = some 114 := by kernel_rfl
theorem riverG : Tryz.prog.globalNamed "loop.example/g00886/impl.riverSpan" = some 5 := by kernel_rfl
theorem riverTy : (Tryz.prog.globals[5]?).map (·.type) = some 114 := by kernel_rfl
theorem roadG : Tryz.prog.globalNamed "loop.example/g00886/impl.roadSpan" = some 6 := by kernel_rfl
theorem roadTy : (Tryz.prog.globals[6]?).map (·.type) = some 114 := by kernel_rfl
theorem supplyG : Tryz.prog.globalNamed "loop.example/g00886/impl.supplySpan" = some 7 := by kernel_rfl
theorem supplyTy : (Tryz.prog.globals[7]?).map (·.type) = some 114 := by kernel_rfl
theorem turnsG : Tryz.prog.globalNamed "loop.example/g00886/impl.turnsSpan" = some 8 := by kernel_rfl
theorem turnsTy : (Tryz.prog.globals[8]?).map (·.type) = some 114 := by kernel_rfl

theorem spans14 {W : World} (h : laidMetH Tryz.prog [("loop.example/g00886/impl.terrainsSpan", Rows.laid_loop_example_g00886_impl_terrainsSpan), ("loop.example/g00886/impl.costSpan", Rows.laid_loop_example_g00886_impl_costSpan), ("loop.example/g00886/impl.shiftSpan", Rows.laid_loop_example_g00886_impl_shiftSpan), ("loop.example/g00886/impl.heightSpan", Rows.laid_loop_example_g00886_impl_heightSpan), ("loop.example/g00886/impl.kindsSpan", Rows.laid_loop_example_g00886_impl_kindsSpan), ("loop.example/g00886/impl.strengthSpan", Rows.laid_loop_example_g00886_impl_strengthSpan), ("loop.example/g00886/impl.movesSpan", Rows.laid_loop_example_g00886_impl_movesSpan), ("loop.example/g00886/impl.stepsSpan", Rows.laid_loop_example_g00886_impl_stepsSpan), ("loop.example/g00886/impl.viewSpan", Rows.laid_loop_example_g00886_impl_viewSpan), ("loop.example/g00886/impl.stackSpan", Rows.laid_loop_example_g00886_impl_stackSpan), ("loop.example/g00886/impl.riverSpan", Rows.laid_loop_example_g00886_impl_riverSpan), ("loop.example/g00886/impl.roadSpan", Rows.laid_loop_example_g00886_impl_roadSpan), ("loop.example/g00886/impl.supplySpan", Rows.laid_loop_example_g00886_impl_supplySpan), ("loop.example/g00886/impl.turnsSpan", Rows.laid_loop_example_g00886_impl_turnsSpan)] W) : Spans W := by
  have h' : laidMet Tryz.prog [("loop.example/g00886/impl.terrainsSpan", Rows.laid_loop_example_g00886_impl_terrainsSpan), ("loop.example/g00886/impl.costSpan", Rows.laid_loop_example_g00886_impl_costSpan), ("loop.example/g00886/impl.shiftSpan", Rows.laid_loop_example_g00886_impl_shiftSpan), ("loop.example/g00886/impl.heightSpan", Rows.laid_loop_example_g00886_impl_heightSpan), ("loop.example/g00886/impl.kindsSpan", Rows.laid_loop_example_g00886_impl_kindsSpan), ("loop.example/g00886/impl.strengthSpan", Rows.laid_loop_example_g00886_impl_strengthSpan), ("loop.example/g00886/impl.movesSpan", Rows.laid_loop_example_g00886_impl_movesSpan), ("loop.example/g00886/impl.stepsSpan", Rows.laid_loop_example_g00886_impl_stepsSpan), ("loop.example/g00886/impl.viewSpan", Rows.laid_loop_example_g00886_impl_viewSpan), ("loop.example/g00886/impl.stackSpan", Rows.laid_loop_example_g00886_impl_stackSpan), ("loop.example/g00886/impl.riverSpan", Rows.laid_loop_example_g00886_impl_riverSpan), ("loop.example/g00886/impl.roadSpan", Rows.laid_loop_example_g00886_impl_roadSpan), ("loop.example/g00886/impl.supplySpan", Rows.laid_loop_example_g00886_impl_supplySpan), ("loop.example/g00886/impl.turnsSpan", Rows.laid_loop_example_g00886_impl_turnsSpan)] W := h
  obtain ⟨ps, hl, _⟩ := h'
  exact ⟨span_of terrainsG terrainsTy (laid_one hl (.head _)), span_of costG costTy (laid_one hl (.tail _ (.head _))), span_of shiftG shiftTy (laid_one hl (.tail _ (.tail _ (.head _)))), span_of heightG heightTy (laid_one hl (.tail _ (.tail _ (.tail _ (.head _))))), span_of kindsG kindsTy (laid_one hl (.tail _ (.tail _ (.tail _ (.tail _ (.head _)))))), span_of strengthG strengthTy (laid_one hl (.tail _ (.tail _ (.tail _ (.tail _ (.tail _ (.head _))))))), span_of movesG movesTy (laid_one hl (.tail _ (.tail _ (.tail _ (.tail _ (.tail _ (.tail _ (.head _)))))))), span_of stepsG stepsTy (laid_one hl (.tail _ (.tail _ (.tail _ (.tail _ (.tail _ (.tail _ (.tail _ (.head _))))))))), span_of viewG viewTy (laid_one hl (.tail _ (.tail _ (.tail _ (.tail _ (.tail _ (.tail _ (.tail _ (.tail _ (.head _)))))))))), span_of stackG stackTy (laid_one hl (.tail _ (.tail _ (.tail _ (.tail _ (.tail _ (.tail _ (.tail _ (.tail _ (.tail _ (.head _))))))))))), span_of riverG riverTy (laid_one hl (.tail _ (.tail _ (.tail _ (.tail _ (.tail _ (.tail _ (.tail _ (.tail _ (.tail _ (.tail _ (.head _)))))))))))), span_of roadG roadTy (laid_one hl (.tail _ (.tail _ (.tail _ (.tail _ (.tail _ (.tail _ (.tail _ (.tail _ (.tail _ (.tail _ (.tail _ (.head _))))))))))))), span_of supplyG supplyTy (laid_one hl (.tail _ (.tail _ (.tail _ (.tail _ (.tail _ (.tail _ (.tail _ (.tail _ (.tail _ (.tail _ (.tail _ (.tail _ (.head _)))))))))))))), span_of turnsG turnsTy (laid_one hl (.tail _ (.tail _ (.tail _ (.tail _ (.tail _ (.tail _ (.tail _ (.tail _ (.tail _ (.tail _ (.tail _ (.tail _ (.tail _ (.head _)))))))))))))))⟩

theorem spans15 {W : World} (h : laidMetH Tryz.prog [("loop.example/g00886/impl.directionSteps", Rows.laid_loop_example_g00886_impl_directionSteps), ("loop.example/g00886/impl.terrainsSpan", Rows.laid_loop_example_g00886_impl_terrainsSpan), ("loop.example/g00886/impl.costSpan", Rows.laid_loop_example_g00886_impl_costSpan), ("loop.example/g00886/impl.shiftSpan", Rows.laid_loop_example_g00886_impl_shiftSpan), ("loop.example/g00886/impl.heightSpan", Rows.laid_loop_example_g00886_impl_heightSpan), ("loop.example/g00886/impl.kindsSpan", Rows.laid_loop_example_g00886_impl_kindsSpan), ("loop.example/g00886/impl.strengthSpan", Rows.laid_loop_example_g00886_impl_strengthSpan), ("loop.example/g00886/impl.movesSpan", Rows.laid_loop_example_g00886_impl_movesSpan), ("loop.example/g00886/impl.stepsSpan", Rows.laid_loop_example_g00886_impl_stepsSpan), ("loop.example/g00886/impl.viewSpan", Rows.laid_loop_example_g00886_impl_viewSpan), ("loop.example/g00886/impl.stackSpan", Rows.laid_loop_example_g00886_impl_stackSpan), ("loop.example/g00886/impl.riverSpan", Rows.laid_loop_example_g00886_impl_riverSpan), ("loop.example/g00886/impl.roadSpan", Rows.laid_loop_example_g00886_impl_roadSpan), ("loop.example/g00886/impl.supplySpan", Rows.laid_loop_example_g00886_impl_supplySpan), ("loop.example/g00886/impl.turnsSpan", Rows.laid_loop_example_g00886_impl_turnsSpan)] W) : Spans W := by
  have h' : laidMet Tryz.prog [("loop.example/g00886/impl.directionSteps", Rows.laid_loop_example_g00886_impl_directionSteps), ("loop.example/g00886/impl.terrainsSpan", Rows.laid_loop_example_g00886_impl_terrainsSpan), ("loop.example/g00886/impl.costSpan", Rows.laid_loop_example_g00886_impl_costSpan), ("loop.example/g00886/impl.shiftSpan", Rows.laid_loop_example_g00886_impl_shiftSpan), ("loop.example/g00886/impl.heightSpan", Rows.laid_loop_example_g00886_impl_heightSpan), ("loop.example/g00886/impl.kindsSpan", Rows.laid_loop_example_g00886_impl_kindsSpan), ("loop.example/g00886/impl.strengthSpan", Rows.laid_loop_example_g00886_impl_strengthSpan), ("loop.example/g00886/impl.movesSpan", Rows.laid_loop_example_g00886_impl_movesSpan), ("loop.example/g00886/impl.stepsSpan", Rows.laid_loop_example_g00886_impl_stepsSpan), ("loop.example/g00886/impl.viewSpan", Rows.laid_loop_example_g00886_impl_viewSpan), ("loop.example/g00886/impl.stackSpan", Rows.laid_loop_example_g00886_impl_stackSpan), ("loop.example/g00886/impl.riverSpan", Rows.laid_loop_example_g00886_impl_riverSpan), ("loop.example/g00886/impl.roadSpan", Rows.laid_loop_example_g00886_impl_roadSpan), ("loop.example/g00886/impl.supplySpan", Rows.laid_loop_example_g00886_impl_supplySpan), ("loop.example/g00886/impl.turnsSpan", Rows.laid_loop_example_g00886_impl_turnsSpan)] W := h
  obtain ⟨ps, hl, _⟩ := h'
  exact ⟨span_of terrainsG terrainsTy (laid_one hl (.tail _ (.head _))), span_of costG costTy (laid_one hl (.tail _ (.tail _ (.head _)))), span_of shiftG shiftTy (laid_one hl (.tail _ (.tail _ (.tail _ (.head _))))), span_of heightG heightTy (laid_one hl (.tail _ (.tail _ (.tail _ (.tail _ (.head _)))))), span_of kindsG kindsTy (laid_one hl (.tail _ (.tail _ (.tail _ (.tail _ (.tail _ (.head _))))))), span_of strengthG strengthTy (laid_one hl (.tail _ (.tail _ (.tail _ (.tail _ (.tail _ (.tail _ (.head _)))))))), span_of movesG movesTy (laid_one hl (.tail _ (.tail _ (.tail _ (.tail _ (.tail _ (.tail _ (.tail _ (.head _))))))))), span_of stepsG stepsTy (laid_one hl (.tail _ (.tail _ (.tail _ (.tail _ (.tail _ (.tail _ (.tail _ (.tail _ (.head _)))))))))), span_of viewG viewTy (laid_one hl (.tail _ (.tail _ (.tail _ (.tail _ (.tail _ (.tail _ (.tail _ (.tail _ (.tail _ (.head _))))))))))), span_of stackG stackTy (laid_one hl (.tail _ (.tail _ (.tail _ (.tail _ (.tail _ (.tail _ (.tail _ (.tail _ (.tail _ (.tail _ (.head _)))))))))))), span_of riverG riverTy (laid_one hl (.tail _ (.tail _ (.tail _ (.tail _ (.tail _ (.tail _ (.tail _ (.tail _ (.tail _ (.tail _ (.tail _ (.head _))))))))))))), span_of roadG roadTy (laid_one hl (.tail _ (.tail _ (.tail _ (.tail _ (.tail _ (.tail _ (.tail _ (.tail _ (.tail _ (.tail _ (.tail _ (.tail _ (.head _)))))))))))))), span_of supplyG supplyTy (laid_one hl (.tail _ (.tail _ (.tail _ (.tail _ (.tail _ (.tail _ (.tail _ (.tail _ (.tail _ (.tail _ (.tail _ (.tail _ (.tail _ (.head _))))))))))))))), span_of turnsG turnsTy (laid_one hl (.tail _ (.tail _ (.tail _ (.tail _ (.tail _ (.tail _ (.tail _ (.tail _ (.tail _ (.tail _ (.tail _ (.tail _ (.tail _ (.tail _ (.head _))))))))))))))))⟩

theorem tab15 {W : World} (h : laidMetH Tryz.prog [("loop.example/g00886/impl.directionSteps", Rows.laid_loop_example_g00886_impl_directionSteps), ("loop.example/g00886/impl.terrainsSpan", Rows.laid_loop_example_g00886_impl_terrainsSpan), ("loop.example/g00886/impl.costSpan", Rows.laid_loop_example_g00886_impl_costSpan), ("loop.example/g00886/impl.shiftSpan", Rows.laid_loop_example_g00886_impl_shiftSpan), ("loop.example/g00886/impl.heightSpan", Rows.laid_loop_example_g00886_impl_heightSpan), ("loop.example/g00886/impl.kindsSpan", Rows.laid_loop_example_g00886_impl_kindsSpan), ("loop.example/g00886/impl.strengthSpan", Rows.laid_loop_example_g00886_impl_strengthSpan), ("loop.example/g00886/impl.movesSpan", Rows.laid_loop_example_g00886_impl_movesSpan), ("loop.example/g00886/impl.stepsSpan", Rows.laid_loop_example_g00886_impl_stepsSpan), ("loop.example/g00886/impl.viewSpan", Rows.laid_loop_example_g00886_impl_viewSpan), ("loop.example/g00886/impl.stackSpan", Rows.laid_loop_example_g00886_impl_stackSpan), ("loop.example/g00886/impl.riverSpan", Rows.laid_loop_example_g00886_impl_riverSpan), ("loop.example/g00886/impl.roadSpan", Rows.laid_loop_example_g00886_impl_roadSpan), ("loop.example/g00886/impl.supplySpan", Rows.laid_loop_example_g00886_impl_supplySpan), ("loop.example/g00886/impl.turnsSpan", Rows.laid_loop_example_g00886_impl_turnsSpan)] W) : Tab W := by
  have h' : laidMet Tryz.prog [("loop.example/g00886/impl.directionSteps", Rows.laid_loop_example_g00886_impl_directionSteps), ("loop.example/g00886/impl.terrainsSpan", Rows.laid_loop_example_g00886_impl_terrainsSpan), ("loop.example/g00886/impl.costSpan", Rows.laid_loop_example_g00886_impl_costSpan), ("loop.example/g00886/impl.shiftSpan", Rows.laid_loop_example_g00886_impl_shiftSpan), ("loop.example/g00886/impl.heightSpan", Rows.laid_loop_example_g00886_impl_heightSpan), ("loop.example/g00886/impl.kindsSpan", Rows.laid_loop_example_g00886_impl_kindsSpan), ("loop.example/g00886/impl.strengthSpan", Rows.laid_loop_example_g00886_impl_strengthSpan), ("loop.example/g00886/impl.movesSpan", Rows.laid_loop_example_g00886_impl_movesSpan), ("loop.example/g00886/impl.stepsSpan", Rows.laid_loop_example_g00886_impl_stepsSpan), ("loop.example/g00886/impl.viewSpan", Rows.laid_loop_example_g00886_impl_viewSpan), ("loop.example/g00886/impl.stackSpan", Rows.laid_loop_example_g00886_impl_stackSpan), ("loop.example/g00886/impl.riverSpan", Rows.laid_loop_example_g00886_impl_riverSpan), ("loop.example/g00886/impl.roadSpan", Rows.laid_loop_example_g00886_impl_roadSpan), ("loop.example/g00886/impl.supplySpan", Rows.laid_loop_example_g00886_impl_supplySpan), ("loop.example/g00886/impl.turnsSpan", Rows.laid_loop_example_g00886_impl_turnsSpan)] W := h
  obtain ⟨ps, ⟨g, t, cs, fuel, p, q, h1, h2, h3, h4, _, _⟩, _⟩ := h'
  exact tab_of_laid1 ⟨g, t, cs, fuel, p, h1, h2, h3, h4⟩

noncomputable def laidWorldS (os : Os) : World :=
  setVar (setVar (setVar (setVar (setVar (setVar (setVar (setVar (setVar (setVar (setVar (setVar (setVar (setVar (laidWorld os) 2 #[.int .i64 1, .int .i64 6]) 9 #[.int .i64 0, .int .i64 9]) 10 #[.int .i64 (-3), .int .i64 3]) 11 #[.int .i64 0, .int .i64 3]) 3 #[.int .i64 1, .int .i64 4]) 12 #[.int .i64 1, .int .i64 9]) 13 #[.int .i64 0, .int .i64 9]) 14 #[.int .i64 1, .int .i64 4]) 15 #[.int .i64 0, .int .i64 4]) 4 #[.int .i64 1, .int .i64 4]) 5 #[.int .i64 0, .int .i64 9]) 6 #[.int .i64 1, .int .i64 9]) 7 #[.int .i64 0, .int .i64 20]) 8 #[.int .i64 1, .int .i64 30]

theorem len14 {α : Type} {l : List α} (h : l.length = 14) : ∃ x0 x1 x2 x3 x4 x5 x6 x7 x8 x9 x10 x11 x12 x13, l = [x0, x1, x2, x3, x4, x5, x6, x7, x8, x9, x10, x11, x12, x13] := by
  match l, h with
  | [x0, x1, x2, x3, x4, x5, x6, x7, x8, x9, x10, x11, x12, x13], _ => exact ⟨_, _, _, _, _, _, _, _, _, _, _, _, _, _, rfl⟩
theorem len15 {α : Type} {l : List α} (h : l.length = 15) : ∃ x0 x1 x2 x3 x4 x5 x6 x7 x8 x9 x10 x11 x12 x13 x14, l = [x0, x1, x2, x3, x4, x5, x6, x7, x8, x9, x10, x11, x12, x13, x14] := by
  match l, h with
  | [x0, x1, x2, x3, x4, x5, x6, x7, x8, x9, x10, x11, x12, x13, x14], _ => exact ⟨_, _, _, _, _, _, _, _, _, _, _, _, _, _, _, rfl⟩

end Go.Proofs.YtmolpkjdjkhnpabGreatDoor

/-
  Worlds that differ in some blocks alone: below a number, and from another one on, all is as it was.
-/
namespace Go.Proofs.YtmolpkjdjkhnpabGreatDoor
open Go.RowKit

/-- Below lo, and from hi on, all that lay there is as it was. -/
def Mk (lo hi : Nat) (w w' : World) : Prop := Below lo w w' ∧ ∀ b, hi ≤ b → b < w.heap.size → w'.heap[b]? = w.heap[b]?
theorem Mk.refl (lo hi : Nat) (w : World) : Mk lo hi w w := ⟨Below.refl _ _, fun _ _ _ => rfl⟩
theorem Mk.trans {lo hi : Nat} {a b c : World} (h : Mk lo hi a b) (k : Mk lo hi b c) : Mk lo hi a c :=
  ⟨Below.trans h.1 k.1, fun n hn hs => (k.2 n hn (Nat.lt_of_lt_of_le hs h.1.size)).trans (h.2 n hn hs)⟩
theorem Mk.of_kp {lo hi : Nat} {w w' : World} (k : Kp w w') (h : lo ≤ w.heap.size) : Mk lo hi w w' := ⟨Below.mono k h, fun b _ hb => k.block b hb⟩
theorem Mk.set {lo hi : Nat} {a w : World} (h : Mk lo hi a w) {b j : Nat} (h1 : lo ≤ b) (h2 : b < hi) (u : Value) : Mk lo hi a (w.setCell ⟨b, j, none⟩ u) :=
  ⟨Below.setCell h.1 h1 u, fun n hn hs => (Below.heap_setCell w ⟨b, j, none⟩ u n (by simp only; omega)).trans (h.2 n hn hs)⟩
theorem Mk.grown {lo hi : Nat} {a w w' : World} {row : Option Nat} (h : Mk lo hi a w) (g : w.grownBy w' row) (hs : lo ≤ w.heap.size) (hr : ∀ k, row = some k → lo ≤ k ∧ k < hi) : Mk lo hi a w' :=
  ⟨Below.grown h.1 g hs (fun k e => (hr k e).1), fun n hn hz => ((let ⟨_, _, _, _, gb⟩ := g; gb) n (Nat.lt_of_lt_of_le hz h.1.size) (fun e => by have := (hr n e.symm).2; omega)).trans (h.2 n hn hz)⟩
theorem Mk.kp {lo hi : Nat} {w w' W0 : World} (h : Mk lo hi w w') (k : Kp W0 w) (hb : W0.heap.size ≤ lo) : Kp W0 w' := Below.trans k (Below.mono h.1 hb)
theorem Mk.own {lo hi base sz n : Nat} {w w' : World} {e : TypeId} {v : Value} {xs : List Value} (h : Mk lo hi w w') (o : w.ownsRow base e sz v n xs) (hb : ∀ g, v.ownBlock = some g → hi ≤ g) : w'.ownsRow base e sz v n xs := by
  obtain ⟨hl, hv⟩ := o
  refine ⟨hl, ?_⟩
  rcases hv with h0 | ⟨g, cap, cur, rfl, h1, h2, h3⟩
  · exact .inl h0
  · have hg : g < w.heap.size := (Array.getElem?_eq_some_iff.1 h2).1
    exact .inr ⟨g, cap, cur, rfl, h1, by rw [h.2 g (hb g rfl) hg]; exact h2, h3⟩

end Go.Proofs.YtmolpkjdjkhnpabGreatDoor

/-
  strings.Builder in a seat whose cut leaves copyCheck's panic out: copyCheck and WriteString, over the library's own words for a builder.
-/
namespace Go.Proofs.YtmolpkjdjkhnpabGreatDoor
open Go.RowKit Go.Shelf

set_option maxRecDepth 100000 in
theorem copyCheck_used (b : Nat) (w : World) (h0 : w.cell? ⟨b, 0, none⟩ = some (.pointer (some ⟨b, 0, none⟩))) :
    Calls Tryz.prog 69 #[.pointer (some ⟨b, 0, none⟩)] w fun e w' => e = .returned (.tuple #[]) ∧ w' = w := by
  obtain ⟨j, hj, _⟩ := Option.map_eq_some_iff.1 Tryz.Builder_Extra_169.sizeBuilder
  go_enter Tryz.func69, Tryz.ntmps69
  go_wp2
  rw [Lib.run_neq_ptr_same w _ Tryz.underlying67 hj]
  go_wp2
  go_end0
  exact ⟨rfl, rfl⟩

set_option maxHeartbeats 1000000 in
set_option maxRecDepth 100000 in
theorem copyCheck_fresh (b : Nat) (w : World) (h0 : w.cell? ⟨b, 0, none⟩ = some (.pointer none)) (hsh : w.shape? b = some (70, 2)) (hfz : w.frozen? ⟨b, 0, none⟩ = false) :
    Calls Tryz.prog 69 #[.pointer (some ⟨b, 0, none⟩)] w fun e w' => e = .returned (.tuple #[]) ∧ w' = w.setCell ⟨b, 0, none⟩ (.pointer (some ⟨b, 0, none⟩)) := by
  obtain ⟨j, hj, hjs⟩ := Option.map_eq_some_iff.1 Tryz.Builder_Extra_169.sizeBuilder
  go_enter Tryz.func69, Tryz.ntmps69
  go_wp2
  rw [Lib.run_to_unsafe w ⟨b, 0, none⟩ Tryz.underlying67 Tryz.underlying127 hj (by rw [hjs]; decide) hsh (Nat.zero_lt_succ 1)]
  simp only [Result.andThen]
  rw [Oper.upon_value]
  go_wp2
  rw [run_callFunc_extern Tryz.func87 (by kernel_rfl) (by kernel_rfl) (by kernel_rfl) (e := Extern.AbiNoEscape.same) (by kernel_rfl)]
  rw [Lib.run_noEscape]
  simp only [Result.andThen]
  rw [Oper.upon_value]
  go_wp2
  rw [Lib.run_from_unsafe w ⟨b, 0, none⟩ Tryz.underlying127 Tryz.underlying67 hj hsh Tryz.Builder_Extra_169.liesBuilder]
  simp only [Result.andThen]
  rw [Oper.upon_value]
  go_wp2
  go_end0
  exact ⟨rfl, rfl⟩

theorem copyCheck_any (B b : Nat) (bs : List Value) (w : World) (h : Lib.IsBuilder 70 5 B b bs w) :
    Calls Tryz.prog 69 #[.pointer (some ⟨b, 0, none⟩)] w fun e w' => e = .returned (.tuple #[]) ∧ Lib.BuilderAt 70 5 B b (.pointer (some ⟨b, 0, none⟩)) bs w' ∧ Below B w w' := by
  rcases h with h | h
  · refine (copyCheck_fresh b w h.cell0 h.shape h.frozen0).mono ?_
    rintro e w' ⟨rfl, rfl⟩
    exact ⟨rfl, h.used _, (Below.refl B w).setCell (p := ⟨b, 0, none⟩) h.1 _⟩
  · refine (copyCheck_used b w h.cell0).mono ?_
    rintro e w' ⟨rfl, rfl⟩
    exact ⟨rfl, h, Below.refl B _⟩

set_option maxHeartbeats 2000000 in
set_option maxRecDepth 100000 in
/-- A text written behind what a builder holds. -/
theorem writeString_any (B b : Nat) (bs : List Value) (s : ByteArray) (w : World) (h : Lib.IsBuilder 70 5 B b bs w) (hlen : bs.length + s.size ≤ 140737488355328) (hBw : B ≤ w.heap.size) :
    Calls Tryz.prog 34 #[.pointer (some ⟨b, 0, none⟩), .string s] w fun e w' => (∃ r, e = .returned r) ∧ Lib.BuilderAt 70 5 B b (.pointer (some ⟨b, 0, none⟩)) (bs ++ Lib.strCells s) w' ∧ Below B w w' := by
  obtain ⟨i0, hi, hz⟩ := Option.map_eq_some_iff.1 Tryz.Builder_Extra_169.infoByte
  have hz0 : i0.zero = some (.int .u8 0) := congrArg (·.1) hz
  have hz1 : i0.size = 1 := congrArg (·.2.1) hz
  have hz2 : i0.bytes = 1 := congrArg (·.2.2) hz
  go_enter Tryz.func34, Tryz.ntmps34
  go_wp2_with fail
  refine (copyCheck_any B b bs _ h).mono ?_
  rintro e w1 ⟨rfl, h1, hb1⟩
  obtain ⟨hB, v, hbk, hown, hne⟩ := h1
  have c0 : w1.cell? ⟨b, 0, none⟩ = some (.pointer (some ⟨b, 0, none⟩)) := by rw [Lib.cell_of_heap hbk]; rfl
  have c1 : w1.cell? ⟨b, 1, none⟩ = some v := by rw [Lib.cell_of_heap hbk]; rfl
  go_wp2_with (at_builtin; refine Lib.wpList_append_own_string _ rfl _ _ 68 9 rfl B 5 i0 Tryz.underlying68 Tryz.underlying9 hi hz0 hz1 hz2 _ _ _ rfl hown s rfl ?c3 ?c4 ?c5 ?_)
  case c3 => unfold maxLen; omega
  case c4 => omega
  case c5 => have := hb1.size; omega
  intro v' w2 hown' hgrow _
  have hlt : b < w1.heap.size := by
    rcases Nat.lt_or_ge b w1.heap.size with h' | h'
    · exact h'
    · simp [Array.getElem?_eq_none h'] at hbk
  have hb2 : w2.heap[b]? = some (.cells #[.pointer (some ⟨b, 0, none⟩), v] 70 (0, 0)) := by
    rw [hgrow.block b hlt (fun e => hne e.symm)]
    exact hbk
  have d0 : w2.cell? ⟨b, 0, none⟩ = some (.pointer (some ⟨b, 0, none⟩)) := by rw [Lib.cell_of_heap hb2]; rfl
  have d1 : w2.cell? ⟨b, 1, none⟩ = some v := by rw [Lib.cell_of_heap hb2]; rfl
  have f1 : w2.frozen? ⟨b, 1, none⟩ = false := Lib.frozen_of_heap hb2 1
  obtain ⟨ao, n', cap, rfl⟩ : ∃ ao n' cap, v' = .slice ao n' cap := by
    rcases hown'.2 with ⟨hv, _⟩ | ⟨g, cap, cur, hv, _⟩
    · exact ⟨_, _, _, hv⟩
    · exact ⟨_, _, _, hv⟩
  go_wp2
  go_ret2
  refine ⟨⟨_, rfl⟩, ?_, ?_⟩
  · exact Lib.BuilderAt.put (T := 70) (e := 5) hB hb2 (bs' := bs ++ Lib.strCells s) (by simpa [Lib.strCells_length] using hown') Tryz.Builder_Extra_169.neB5
  · exact (hb1.grown hgrow (by have := hb1.size; omega) (fun k hk => (hown.lt k hk).1)).setCell (p := ⟨b, 1, none⟩) hB _
end Go.Proofs.YtmolpkjdjkhnpabGreatDoor

/-
  A number as text, in the reference: 'l1Num' turns a number of 0 or more into its decimal digits, and only new blocks are written.
-/
namespace Go.Proofs.YtmolpkjdjkhnpabGreatDoor
open Go.RowKit

/-- A number's text. -/
def decT (n : Nat) : ByteArray := ⟨(Lib.decDigits n).toArray⟩

theorem strOf_one (n : Nat) : strOfNums [48 + (n : Int)] = ⟨[UInt8.ofNat (48 + n)].toArray⟩ := by
  have e : (48 + (n : Int)).toNat = 48 + n := by omega
  unfold strOfNums
  simp [e]

theorem decT_lt {n : Nat} (h : n < 10) : decT n = strOfNums [48 + (n : Int)] := by
  rw [strOf_one]
  unfold decT
  rw [Lib.decDigits, dif_pos h]

theorem decT_ge {n : Nat} (h : ¬ n < 10) : decT n = decT (n / 10) ++ strOfNums [48 + ((n % 10 : Nat) : Int)] := by
  rw [strOf_one]
  unfold decT
  rw [Lib.decDigits, dif_neg h]
  apply ByteArray.ext
  simp [ByteArray.data_append]

theorem decT_size (n : Nat) : (decT n).size = Lib.nDigits n := by
  unfold decT ByteArray.size
  simp [Lib.decDigits_eq]

theorem nDigits_le (n : Nat) : Lib.nDigits n ≤ n + 1 := by
  induction n using Nat.strongRecOn with
  | _ n ih =>
    by_cases h : n < 10
    · rw [Lib.nDigits_small h]; omega
    · rw [Lib.nDigits_big h]
      have := ih (n / 10) (by omega)
      omega

theorem decT_len (n : Nat) : (decT n).size ≤ n + 1 := by rw [decT_size]; exact nDigits_le n

/-- One byte, as a list in memory, turned into a text. -/
theorem conv_one (r : Nat) (W : World) (b : Nat) (h : W.cell? ⟨b, 0, none⟩ = some (.int .u8 (48 + (r : Int)))) :
    (convert 68 9 (.slice (some ⟨b, 0, none⟩) 1 1)).run Tryz.prog W = .ok (.string (strOfNums [48 + (r : Int)])) W :=
  run_convert_bytes_arg (P := Tryz.prog) W 68 5 Tryz.underlying68 Tryz.underlying5 b 0 1 1 [48 + (r : Int)] rfl (fun i hi => by
    obtain rfl : i = 0 := by omega
    simpa using h) 9 Tryz.underlying9

set_option maxRecDepth 100000 in
set_option maxHeartbeats 1000000 in
theorem l1Num_any : ∀ (n : Nat) (w : World), n ≤ 1000000000000000 →
    Calls Tryz.prog 54 #[.int .i64 (n : Int)] w fun e w' => e = .returned (.string (decT n)) ∧ Kp w w' := by
  intro n
  induction n using Nat.strongRecOn with
  | _ n ih =>
    intro w hn
    by_cases h0 : n < 10
    · have h1 : (n : Int) < 10 := by omega
      have hconv := conv_one n (w.alloc (.cells #[.int .u8 (48 + (n : Int))] 5)) w.heap.size (by simp [go_sem])
      rw [← decT_lt h0] at hconv
      go_enter Tryz.func54, Tryz.ntmps54
      go_wp2_with fail
      go_ret
      exact ⟨rfl, (Kp.refl _).alloc _⟩
    · have h1 : ¬ (n : Int) < 10 := by omega
      have h2 : (n : Int) / 10 = ((n / 10 : Nat) : Int) := by omega
      have h3 : (n : Int) % 10 = ((n % 10 : Nat) : Int) := by omega
      obtain ⟨q, hq⟩ : ∃ q, q = n / 10 := ⟨_, rfl⟩
      obtain ⟨r, hr⟩ : ∃ r, r = n % 10 := ⟨_, rfl⟩
      have HT := Lib.hid (decT_ge h0)
      have IH := Lib.hid (fun w => ih q (by omega) w (by omega))
      have HC := Lib.hid (conv_one r)
      have hr9 : (r : Int) ≤ 9 := by omega
      have t1 : (n : Int).tdiv 10 = (q : Int) := by rw [Int.tdiv_eq_ediv_of_nonneg (by omega)]; omega
      have t2 : (n : Int).tmod 10 = (r : Int) := by rw [Int.tmod_eq_emod_of_nonneg (by omega)]; omega
      have t3 : IntKind.i64.wrap (q : Int) = q := IntWalk.i64_in _ (by omega)
      have t4 : IntKind.i64.wrap (48 + (r : Int)) = 48 + (r : Int) := IntWalk.i64_in _ (by omega)
      have t5 : IntKind.u8.wrap (48 + (r : Int)) = 48 + (r : Int) := by simp [IntKind.wrap, IntKind.bits, IntKind.signed]; omega
      have hz1 := decT_len q
      have hz2 := strOfNums_size [48 + (r : Int)]
      have hz3 : (decT q).size + (strOfNums [48 + (r : Int)]).size ≤ 9223372036854775807 := by simp at hz2; omega
      have hz4 : ¬ 9223372036854775807 < (decT q).size + (strOfNums [48 + (r : Int)]).size := by omega
      clear hz1 hz2
      have t6 : IntKind.i64.wrap (r : Int) = r := IntWalk.i64_in _ (by omega)
      rw [← hr] at HT h3
      rw [← hq] at HT h2
      clear ih hq hr
      have s1 : True := trivial
      go_enter Tryz.func54, Tryz.ntmps54
      go_wp2_with fail
      refine wp_region_held_drew (S := fun _ => True) (by kernel_rfl) ?_ (fun hHeld => ?_)
      · exact s1
      refine wpAnyH_take (i := 0) (oi := ⟨some 10, _, _, _, _, _⟩) (v := ?_) rfl (by kernel_rfl) (by kernel_rfl) (by kernel_rfl) (fun _ _ _ h => h) (Or.inl ⟨by rfl, ?_⟩) (by assumption) ?_
      rotate_left
      · intro w hSw; (try dsimp only at hSw); go_simp; (all_goals with_reducible rfl)
      simp only [Act.put, List.setIfInBounds_toArray, List.set_cons_zero, List.set_cons_succ]
      refine wpAnyH_take (i := 1) (oi := ⟨some 11, _, _, _, _, _⟩) (v := ?_) rfl (by kernel_rfl) (by kernel_rfl) (by kernel_rfl) (fun _ _ _ h => h) (Or.inl ⟨by rfl, ?_⟩) (by assumption) ?_
      rotate_left
      · intro w hSw; (try dsimp only at hSw); go_simp; (all_goals with_reducible rfl)
      simp only [Act.put, List.setIfInBounds_toArray, List.set_cons_zero, List.set_cons_succ]
      refine wpAnyH_take (i := 3) (oi := ⟨some 13, _, _, _, _, _⟩) (v := ?_) rfl (by kernel_rfl) (by kernel_rfl) (by kernel_rfl) (fun _ _ _ h => h) (Or.inl ⟨by rfl, ?_⟩) (by assumption) ?_
      rotate_left
      · intro w hSw; (try dsimp only at hSw); go_simp; (all_goals with_reducible rfl)
      simp only [Act.put, List.setIfInBounds_toArray, List.set_cons_zero, List.set_cons_succ]
      refine wpAnyH_take (i := 4) (oi := ⟨some 14, _, _, _, _, _⟩) (v := ?_) rfl (by kernel_rfl) (by kernel_rfl) (by kernel_rfl) (fun _ _ _ h => h) (Or.inl ⟨by rfl, ?_⟩) (by assumption) ?_
      rotate_left
      · intro w hSw; (try dsimp only at hSw); go_simp; (all_goals with_reducible rfl)
      simp only [Act.put, List.setIfInBounds_toArray, List.set_cons_zero, List.set_cons_succ]
      refine wpAnyH_take (i := 5) (oi := ⟨some 15, _, _, _, _, _⟩) (v := ?_) rfl (by kernel_rfl) (by kernel_rfl) (by kernel_rfl) (fun _ _ _ h => h) (Or.inl ⟨by rfl, ?_⟩) (by assumption) ?_
      rotate_left
      · intro w hSw; (try dsimp only at hSw); go_simp; (all_goals with_reducible rfl)
      simp only [Act.put, List.setIfInBounds_toArray, List.set_cons_zero, List.set_cons_succ]
      refine wpAnyH_take (i := 6) (oi := ⟨some 16, _, _, _, _, _⟩) (v := ?_) rfl (by kernel_rfl) (by kernel_rfl) (by kernel_rfl) (fun _ _ _ h => h) (Or.inl ⟨by rfl, ?_⟩) (by assumption) ?_
      rotate_left
      · intro w hSw; (try dsimp only at hSw); go_simp; (all_goals with_reducible rfl)
      simp only [Act.put, List.setIfInBounds_toArray, List.set_cons_zero, List.set_cons_succ]
      refine wpAnyH_ready (rs := [2, 7]) (by kernel_rfl) (by simp) ?_
      refine (AllReadyH.cons (o := ⟨some 12, _, _, _, _, _⟩) rfl (fun K hK => ?_) (AllReadyH.cons (o := ⟨some 17, _, _, _, _, _⟩) rfl (fun K hK => ?_) AllReadyH.nil))
      · go_simp
        refine (IH.out _).mono ?_
        rintro e1 w1 ⟨rfl, k1⟩
        go_wp2_with fail
        refine hK.out _ _ trivial (fun hHeld => ?_)
        clear hK K
        try simp only [Act.put, List.setIfInBounds_toArray, List.set_cons_zero, List.set_cons_succ]
        refine wpAnyH_ready (rs := [7]) (by kernel_rfl) (by simp) ?_
        refine (AllReadyH.cons (o := ⟨some 17, _, _, _, _, _⟩) rfl (fun K hK => ?_) AllReadyH.nil)
        · go_simp
          go_wp2_with fail
          refine hK.out _ _ trivial (fun hHeld => ?_)
          clear hK K
          try simp only [Act.put, List.setIfInBounds_toArray, List.set_cons_zero, List.set_cons_succ]
          refine wpAnyH_ready (rs := [8]) (by kernel_rfl) (by simp) ?_
          refine (AllReadyH.cons (o := ⟨some 18, _, _, _, _, _⟩) rfl (fun K hK => ?_) AllReadyH.nil)
          · go_simp
            rw [HC.out]
            rotate_left
            · simp [go_sem]
            go_wp2_with fail
            refine hK.out _ _ trivial (fun hHeld => ?_)
            clear hK K
            try simp only [Act.put, List.setIfInBounds_toArray, List.set_cons_zero, List.set_cons_succ]
            refine wpAnyH_take (i := 9) (oi := ⟨some 19, _, _, _, _, _⟩) (v := ?_) rfl (by kernel_rfl) (by kernel_rfl) (by kernel_rfl) (fun _ _ _ h => h) (Or.inl ⟨by rfl, ?_⟩) (by assumption) ?_
            rotate_left
            · intro w hSw; (try dsimp only at hSw); go_simp; (all_goals with_reducible rfl)
            simp only [Act.put, List.setIfInBounds_toArray, List.set_cons_zero, List.set_cons_succ]
            refine wpAnyH_take (i := 10) (oi := ⟨some 2, _, _, _, _, _⟩) (v := ?_) rfl (by kernel_rfl) (by kernel_rfl) (by kernel_rfl) (fun _ _ _ h => h) (Or.inl ⟨by rfl, ?_⟩) (by assumption) ?_
            rotate_left
            · intro w hSw; (try dsimp only at hSw); go_simp; (all_goals with_reducible rfl)
            simp only [Act.put, List.setIfInBounds_toArray, List.set_cons_zero, List.set_cons_succ]
            refine wpAnyH_done (by kernel_rfl) ?_ _
            go_wp2_with fail
            go_ret
            exact ⟨by rw [HT.out]; rfl, ((Kp.refl w).drew.trans k1).alloc _⟩
      · go_simp
        go_wp2_with fail
        refine hK.out _ _ trivial (fun hHeld => ?_)
        clear hK K
        try simp only [Act.put, List.setIfInBounds_toArray, List.set_cons_zero, List.set_cons_succ]
        refine wpAnyH_ready (rs := [2, 8]) (by kernel_rfl) (by simp) ?_
        refine (AllReadyH.cons (o := ⟨some 12, _, _, _, _, _⟩) rfl (fun K hK => ?_) (AllReadyH.cons (o := ⟨some 18, _, _, _, _, _⟩) rfl (fun K hK => ?_) AllReadyH.nil))
        · go_simp
          refine (IH.out _).mono ?_
          rintro e1 w1 ⟨rfl, k1⟩
          have hc8 := HC.out w1 w.heap.size (k1.cell (by simp [go_sem]))
          go_wp2_with fail
          refine hK.out _ _ trivial (fun hHeld => ?_)
          clear hK K
          try simp only [Act.put, List.setIfInBounds_toArray, List.set_cons_zero, List.set_cons_succ]
          refine wpAnyH_ready (rs := [8]) (by kernel_rfl) (by simp) ?_
          refine (AllReadyH.cons (o := ⟨some 18, _, _, _, _, _⟩) rfl (fun K hK => ?_) AllReadyH.nil)
          · go_simp
            go_wp2_with fail
            refine hK.out _ _ trivial (fun hHeld => ?_)
            clear hK K
            try simp only [Act.put, List.setIfInBounds_toArray, List.set_cons_zero, List.set_cons_succ]
            refine wpAnyH_take (i := 9) (oi := ⟨some 19, _, _, _, _, _⟩) (v := ?_) rfl (by kernel_rfl) (by kernel_rfl) (by kernel_rfl) (fun _ _ _ h => h) (Or.inl ⟨by rfl, ?_⟩) (by assumption) ?_
            rotate_left
            · intro w hSw; (try dsimp only at hSw); go_simp; (all_goals with_reducible rfl)
            simp only [Act.put, List.setIfInBounds_toArray, List.set_cons_zero, List.set_cons_succ]
            refine wpAnyH_take (i := 10) (oi := ⟨some 2, _, _, _, _, _⟩) (v := ?_) rfl (by kernel_rfl) (by kernel_rfl) (by kernel_rfl) (fun _ _ _ h => h) (Or.inl ⟨by rfl, ?_⟩) (by assumption) ?_
            rotate_left
            · intro w hSw; (try dsimp only at hSw); go_simp; (all_goals with_reducible rfl)
            simp only [Act.put, List.setIfInBounds_toArray, List.set_cons_zero, List.set_cons_succ]
            refine wpAnyH_done (by kernel_rfl) ?_ _
            go_wp2_with fail
            go_ret
            exact ⟨by rw [HT.out]; rfl, ((Kp.refl w).drew.alloc _).trans k1⟩
        · go_simp
          rw [HC.out]
          rotate_left
          · simp [go_sem]
          go_wp2_with fail
          refine hK.out _ _ trivial (fun hHeld => ?_)
          clear hK K
          try simp only [Act.put, List.setIfInBounds_toArray, List.set_cons_zero, List.set_cons_succ]
          refine wpAnyH_ready (rs := [2]) (by kernel_rfl) (by simp) ?_
          refine (AllReadyH.cons (o := ⟨some 12, _, _, _, _, _⟩) rfl (fun K hK => ?_) AllReadyH.nil)
          · go_simp
            refine (IH.out _).mono ?_
            rintro e1 w1 ⟨rfl, k1⟩
            go_wp2_with fail
            refine hK.out _ _ trivial (fun hHeld => ?_)
            clear hK K
            try simp only [Act.put, List.setIfInBounds_toArray, List.set_cons_zero, List.set_cons_succ]
            refine wpAnyH_take (i := 9) (oi := ⟨some 19, _, _, _, _, _⟩) (v := ?_) rfl (by kernel_rfl) (by kernel_rfl) (by kernel_rfl) (fun _ _ _ h => h) (Or.inl ⟨by rfl, ?_⟩) (by assumption) ?_
            rotate_left
            · intro w hSw; (try dsimp only at hSw); go_simp; (all_goals with_reducible rfl)
            simp only [Act.put, List.setIfInBounds_toArray, List.set_cons_zero, List.set_cons_succ]
            refine wpAnyH_take (i := 10) (oi := ⟨some 2, _, _, _, _, _⟩) (v := ?_) rfl (by kernel_rfl) (by kernel_rfl) (by kernel_rfl) (fun _ _ _ h => h) (Or.inl ⟨by rfl, ?_⟩) (by assumption) ?_
            rotate_left
            · intro w hSw; (try dsimp only at hSw); go_simp; (all_goals with_reducible rfl)
            simp only [Act.put, List.setIfInBounds_toArray, List.set_cons_zero, List.set_cons_succ]
            refine wpAnyH_done (by kernel_rfl) ?_ _
            go_wp2_with fail
            go_ret
            exact ⟨by rw [HT.out]; rfl, ((Kp.refl w).drew.alloc _).trans k1⟩

end Go.Proofs.YtmolpkjdjkhnpabGreatDoor

/-
  Texts as lists of bytes; a line of digits as the program writes it.
-/
namespace Go.Proofs.YtmolpkjdjkhnpabGreatDoor
open Go.RowKit

/-- A list of bytes as a text. -/
def txt (l : List UInt8) : ByteArray := ⟨l.toArray⟩
theorem txt_app (a b : List UInt8) : txt a ++ txt b = txt (a ++ b) := by
  apply ByteArray.ext
  simp [txt, ByteArray.data_append]
theorem txt_size (l : List UInt8) : (txt l).size = l.length := by simp [txt, ByteArray.size]
theorem decT_txt (n : Nat) : decT n = txt (Lib.decDigits n) := rfl

/-- The digits of numbers, one number behind the other. -/
def digs (l : List Int) : List UInt8 := l.flatMap fun n => Lib.decDigits n.toNat
theorem digs_nil : digs [] = [] := rfl
theorem digs_more {l : List Int} {q : Nat} {x : Int} (h : l[q]? = some x) : digs (l.take (q + 1)) = digs (l.take q) ++ Lib.decDigits x.toNat := by
  rw [List.take_add_one, h]
  simp [digs]
theorem dec_len {n : Nat} (h : n < 100) : (Lib.decDigits n).length ≤ 2 := by
  have e : (Lib.decDigits n).length = Lib.nDigits n := by simp [Lib.decDigits_eq]
  rw [e]
  by_cases h0 : n < 10
  · rw [Lib.nDigits_small h0]; omega
  · rw [Lib.nDigits_big h0, Lib.nDigits_small (by omega)]; omega
theorem digs_len : ∀ (l : List Int), (∀ x ∈ l, 0 ≤ x ∧ x < 100) → (digs l).length ≤ 2 * l.length
  | [], _ => by simp [digs]
  | x :: l, h => by
    have h1 := digs_len l (fun y hy => h y (List.mem_cons_of_mem _ hy))
    have h2 := h x (List.mem_cons_self ..)
    have h3 := dec_len (n := x.toNat) (by omega)
    have e : digs (x :: l) = Lib.decDigits x.toNat ++ digs l := by simp [digs]
    rw [e, List.length_append, List.length_cons]
    omega

set_option maxRecDepth 100000 in
set_option maxHeartbeats 2000000 in
theorem digitsLine_any (v : Value) (l : List Int) (w : World) (h : RdI w v l) (hl : l.length ≤ 1048576) (hb : ∀ x ∈ l, 0 ≤ x ∧ x < 100) :
    Calls Tryz.prog 40 #[v] w fun e w' => e = .returned (.string (txt (digs l ++ [10]))) ∧ Kp w w' := by
  obtain ⟨A, c, rfl, hA⟩ := h
  have HA := Lib.hid hA
  have HB := Lib.hid hb
  have HLD := Lib.hid (digs_len l hb)
  obtain ⟨n, hn⟩ : ∃ n, l.length = n := ⟨_, rfl⟩
  rw [hn] at hl hA HLD ⊢
  have HN := Lib.hid hn
  clear hn hA hb
  have F0 := Lib.hid (Lib.fresh_isBuilder 70 5 w)
  go_enter Tryz.func40, Tryz.ntmps40
  go_wp2_with fail
  go_loopw [5, 8] (fun _ i wr => ∃ q : Nat, q ≤ n ∧ i = .int .i64 q ∧ Hid (Lib.IsBuilder 70 5 w.heap.size w.heap.size (Lib.byteCells (digs (l.take q))) wr) ∧ Kp w wr) (fun _ i _ => n - (intOf i).toNat)
  case atStart => exact ⟨0, by omega, rfl, F0, (Kp.refl _).alloc _⟩
  case round =>
    clear F0
    obtain ⟨q, hq, rfl, hB, kr⟩ := hrel
    have hw := kr.size
    by_cases hlt : q < n
    · have hlt' : (q : Int) < n := by omega
      obtain ⟨x, hx⟩ : ∃ x, l[q]? = some x := ⟨l[q]'(by have := HN.out; omega), List.getElem?_eq_getElem _⟩
      obtain ⟨g, off, rfl, hc⟩ := HA.out (by have := HN.out; omega)
      have a0 := kr.cell (hc q x hx)
      have hx1 := HB.out x (List.mem_of_getElem? hx)
      have HM := Lib.hid (digs_more hx)
      have HLQ := Lib.hid (digs_len (l.take q) (fun y hy => HB.out y (List.mem_of_mem_take hy)))
      obtain ⟨m, rfl⟩ : ∃ m : Nat, x = m := ⟨x.toNat, by omega⟩
      have hm : m < 100 := by omega
      clear hx hc hx1
      go_wp2_with fail
      refine (Tryz.strconv_Itoa_small m hm _).mono ?_
      rintro e1 w1 ⟨rfl, rfl⟩
      go_wp2_with fail
      refine (writeString_any w.heap.size w.heap.size _ _ _ hB.out (by
        have h1 := HLQ.out
        have h2 := dec_len hm
        rw [Lib.byteCells_length]
        rw [List.length_take] at h1
        simp only [ByteArray.size, List.size_toArray]
        omega) hw).mono ?_
      rintro e2 w2 ⟨⟨r, rfl⟩, hb2, kb2⟩
      have HB2 : Hid (Lib.IsBuilder 70 5 w.heap.size w.heap.size (Lib.byteCells (digs (l.take (q + 1)))) w2) := Lib.hid (by
        rw [HM.out, Lib.byteCells_append]
        exact .inr hb2)
      have KB2 : Kp w w2 := Below.trans kr kb2
      go_wp2_with fail
      go_roundw
      case rel => exact ⟨q + 1, by omega, by go_num, HB2, KB2⟩
      case measure => simp [intOf]; omega
    · obtain rfl : q = n := by omega
      have HT := Lib.hid (show l.take q = l from List.take_of_length_le (by rw [HN.out]; omega))
      rw [HT.out] at hB
      go_wp2_with fail
      refine (Tryz.Builder_String_any w.heap.size w.heap.size _ _ hB.out hw).mono ?_
      rintro e1 w1 ⟨rfl, k1⟩
      have hz : ¬ 9223372036854775807 < (ByteArray.mk (digs l).toArray).size + (ByteArray.mk #[10]).size := by
        have := HLD.out
        simp [ByteArray.size]
        omega
      go_wp2_with fail
      go_ret
      exact ⟨by rw [← txt_app]; rfl, Below.trans kr k1⟩
end Go.Proofs.YtmolpkjdjkhnpabGreatDoor

/-
  Texts of words: words joined by a byte that is in none of them are split into the same words; a form filled with a name and numbers.
-/
namespace Go.Proofs.YtmolpkjdjkhnpabGreatDoor
open Go.RowKit

theorem index_pre (c : UInt8) : ∀ (x r : List UInt8), c ∉ x → Lib.index (x ++ c :: r) [c] = x.length
  | [], r, _ => by rw [List.nil_append, Lib.index]; simp [List.isPrefixOf]
  | b :: x, r, h => by
    have hb : b ≠ c := fun e => h (by simp [e])
    have ih := index_pre c x r (fun hc => h (List.mem_cons_of_mem _ hc))
    have hp : ([c] : List UInt8).isPrefixOf (b :: (x ++ c :: r)) = false := by simp [List.isPrefixOf, Ne.symm hb]
    have hm : ¬ ((x.length : Int) == -1) = true := fun e => by have := beq_iff_eq.1 e; omega
    rw [List.cons_append, Lib.index, hp, ih, if_neg (by decide), if_neg hm, List.length_cons]
    omega

theorem join_two (x y : List UInt8) (r : List (List UInt8)) (c : UInt8) : Lib.join (x :: y :: r) [c] = x ++ c :: Lib.join (y :: r) [c] := by
  rw [Lib.join_cons, Lib.join_cons]
  simp [Lib.joinTail]

theorem splitK_join (c : UInt8) : ∀ (r : List (List UInt8)) (x : List UInt8), (∀ y ∈ x :: r, c ∉ y) → Lib.splitK [c] 0 r.length (Lib.join (x :: r) [c]) = x :: r
  | [], x, _ => by rw [Lib.join_one]; rfl
  | y :: r, x, h => by
    have i := index_pre c x (Lib.join (y :: r) [c]) (h x (List.mem_cons_self ..))
    have ih := splitK_join c r y (fun z hz => h z (List.mem_cons_of_mem _ hz))
    have hm : ¬ ((x.length : Int) == -1) = true := fun e => by have := beq_iff_eq.1 e; omega
    rw [List.length_cons, Lib.splitK, join_two, i, if_neg hm]
    have e1 : (x ++ c :: Lib.join (y :: r) [c]).take (((x.length : Int).toNat) + 0) = x := by simp
    have e2 : (x ++ c :: Lib.join (y :: r) [c]).drop (((x.length : Int).toNat) + ([c] : List UInt8).length) = Lib.join (y :: r) [c] := by
      have e3 : x ++ c :: Lib.join (y :: r) [c] = (x ++ [c]) ++ Lib.join (y :: r) [c] := by simp
      rw [e3]
      exact List.drop_left' (by simp)
    rw [e1, e2, ih]

theorem count_join (c : UInt8) : ∀ (r : List (List UInt8)) (x : List UInt8), (∀ y ∈ x :: r, c ∉ y) → (Lib.join (x :: r) [c]).count c = r.length
  | [], x, h => by rw [Lib.join_one]; exact List.count_eq_zero.2 (h x (List.mem_cons_self ..))
  | y :: r, x, h => by
    have ih := count_join c r y (fun z hz => h z (List.mem_cons_of_mem _ hz))
    have h0 : x.count c = 0 := List.count_eq_zero.2 (h x (List.mem_cons_self ..))
    rw [join_two, List.count_append, h0, List.count_cons_self, ih, List.length_cons]
    omega

theorem splitB_join (c : UInt8) (s : ByteArray) (x : List UInt8) (r : List (List UInt8)) (e : s.data.toList = Lib.join (x :: r) [c]) (h : ∀ y ∈ x :: r, c ∉ y) :
    Lib.countB s ⟨#[c]⟩ = r.length ∧ (Lib.splitB ⟨#[c]⟩ 0 (Lib.countB s ⟨#[c]⟩) s).map (·.data.toList) = x :: r := by
  have e1 : Lib.countB s ⟨#[c]⟩ = r.length := by
    show Lib.count s.data.toList [c] = _
    rw [Lib.count_one, e, count_join c r x h]
  refine ⟨e1, ?_⟩
  rw [e1, Lib.splitB_data, e]
  exact splitK_join c r x h

/-- A form's words filled: NAME with a name, each N with the next number. -/
def fillW : List (List UInt8) → List UInt8 → List Int → List (List UInt8)
  | [], _, _ => []
  | w :: ws, nm, ns =>
    if w = [78, 65, 77, 69] then nm :: fillW ws nm ns
    else if w = [78] then Lib.itoa (ns.headD 0) :: fillW ws nm ns.tail
    else w :: fillW ws nm ns
def usedN (ws : List (List UInt8)) : Nat := ws.count [78]

theorem fillW_snoc (nm : List UInt8) (w : List UInt8) : ∀ (ws : List (List UInt8)) (ns : List Int), fillW (ws ++ [w]) nm ns = fillW ws nm ns ++ fillW [w] nm (ns.drop (usedN ws))
  | [], ns => by simp [fillW, usedN]
  | v :: ws, ns => by
    rw [List.cons_append, fillW, fillW]
    by_cases h1 : v = [78, 65, 77, 69]
    · subst h1
      rw [if_pos rfl, if_pos rfl, fillW_snoc nm w ws ns, List.cons_append]
      simp [usedN]
    · rw [if_neg h1, if_neg h1]
      by_cases h2 : v = [78]
      · subst h2
        rw [if_pos rfl, if_pos rfl, fillW_snoc nm w ws ns.tail, List.cons_append]
        have e : usedN ([78] :: ws) = usedN ws + 1 := by simp [usedN]
        rw [e, ← List.drop_one, List.drop_drop, Nat.add_comm 1]
      · rw [if_neg h2, if_neg h2, fillW_snoc nm w ws ns, List.cons_append]
        have e : usedN (v :: ws) = usedN ws := by simp [usedN, h2]
        rw [e]

theorem fillW_length (nm : List UInt8) : ∀ (ws : List (List UInt8)) (ns : List Int), (fillW ws nm ns).length = ws.length
  | [], _ => rfl
  | v :: ws, ns => by
    rw [fillW]
    split
    · rw [List.length_cons, List.length_cons, fillW_length nm ws]
    · split
      · rw [List.length_cons, List.length_cons, fillW_length nm ws]
      · rw [List.length_cons, List.length_cons, fillW_length nm ws]

theorem usedN_more {ws : List (List UInt8)} {q : Nat} {v : List UInt8} (h : ws[q]? = some v) : usedN (ws.take (q + 1)) = usedN (ws.take q) + if v = [78] then 1 else 0 := by
  rw [List.take_add_one, h]
  simp only [usedN, Option.toList_some, List.count_append, List.count_cons, List.count_nil]
  by_cases e : v = [78]
  · simp [e]
  · simp [e]

theorem fillW_more {ws : List (List UInt8)} {q : Nat} {v : List UInt8} (h : ws[q]? = some v) (nm : List UInt8) (ns : List Int) : fillW (ws.take (q + 1)) nm ns = fillW (ws.take q) nm ns ++ fillW [v] nm (ns.drop (usedN (ws.take q))) := by
  rw [List.take_add_one, h]
  exact fillW_snoc nm v _ ns

theorem usedN_le (ws : List (List UInt8)) (q : Nat) : usedN (ws.take q) ≤ usedN ws := List.Sublist.count_le _ (List.take_sublist ..)
theorem usedN_lt {ws : List (List UInt8)} {q : Nat} (h : ws[q]? = some [78]) : usedN (ws.take q) < usedN ws := by
  have h1 := usedN_more h
  have h2 := usedN_le ws (q + 1)
  rw [if_pos rfl] at h1
  omega

/-- The length of joined words, where each has at most k bytes. -/
theorem join_bound (c : UInt8) (k : Nat) : ∀ (ws : List (List UInt8)), (∀ w ∈ ws, w.length ≤ k) → (Lib.join ws [c]).length ≤ (k + 1) * ws.length
  | [], _ => by simp [Lib.join]
  | x :: r, h => by
    have h1 : Lib.lens (x :: r) ≤ k * (x :: r).length := by
      have : ∀ (l : List (List UInt8)), (∀ w ∈ l, w.length ≤ k) → Lib.lens l ≤ k * l.length := by
        intro l
        induction l with
        | nil => intro _; simp [Lib.lens]
        | cons y l ih =>
          intro hl
          have a := ih (fun w hw => hl w (List.mem_cons_of_mem _ hw))
          have b := hl y (List.mem_cons_self ..)
          have e : Lib.lens (y :: l) = y.length + Lib.lens l := by simp [Lib.lens]
          rw [e, List.length_cons, Nat.mul_add, Nat.mul_one]
          omega
      exact this _ h
    rw [Lib.join_length, Nat.add_mul, Nat.one_mul]
    simp only [List.length_cons, List.length_nil] at h1 ⊢
    omega

end Go.Proofs.YtmolpkjdjkhnpabGreatDoor

/-
  strings.Split at a separator of one byte: the pieces, in a new block, and nothing else.
-/
namespace Go.Proofs.YtmolpkjdjkhnpabGreatDoor
open Go.RowKit Go.Shelf

theorem txt_of (s : ByteArray) : txt s.data.toList = s := by
  apply ByteArray.ext
  simp [txt]

theorem infoStr9 : (Tryz.prog.info? 9).map (fun i => (i.zero, i.size, i.bytes)) = some (some (.string ByteArray.empty), 1, 16) := by kernel_rfl

theorem countB_one (s : ByteArray) (c : UInt8) : Lib.countB s ⟨#[c]⟩ = s.data.toList.count c := by
  show Lib.count s.data.toList [c] = _
  exact Lib.count_one c _

set_option maxRecDepth 100000 in
theorem split_one (s : ByteArray) (c : UInt8) (x : List UInt8) (r : List (List UInt8)) (w : World) (hs : s.size < 4294967281) (e : s.data.toList = Lib.join (x :: r) [c]) (h : ∀ y ∈ x :: r, c ∉ y) :
    Calls Tryz.prog 90 #[.string s, .string ⟨#[c]⟩] w fun e w' =>
      e = .returned (.slice (some ⟨w.heap.size, 0, none⟩) (r.length + 1) (r.length + 1)) ∧ w' = w.alloc (.cells ((x :: r).map fun y => Value.string (txt y)).toArray 9) := by
  obtain ⟨h1, h2⟩ := splitB_join c s x r e h
  have hle : r.length ≤ s.size := by
    rw [← h1, countB_one]
    exact List.count_le_length
  have g := Any.strings_genSplit_core Tryz.lays221 infoStr9 s ⟨#[c]⟩ 0 (-1) (r.length + 1) w hs (Nat.le_refl 1) (Nat.zero_le _)
    (fun x _ _ => (Tryz.strings_Index_one x c _).mono fun e w' ⟨a, b⟩ => ⟨by rw [a, ← Lib.index_one], b⟩)
    ((Tryz.strings_Count_one s c w).mono fun e w' ⟨a, b⟩ => ⟨by rw [a, countB_one]; rfl, b⟩) (by decide) (by decide) (by rw [if_pos (by decide), h1]; omega)
  have e3 : Lib.splitB ⟨#[c]⟩ 0 (r.length + 1 - 1) s = (x :: r).map txt := by
    rw [h1] at h2
    rw [Nat.add_sub_cancel, ← h2, List.map_map]
    refine (List.map_id'' ?_ _).symm
    intro y
    exact txt_of y
  rw [e3] at g
  have e4 : ((x :: r).map txt).length = r.length + 1 := by simp
  have e5 : Lib.cellsOf ((x :: r).map txt) (r.length + 1) = ((x :: r).map fun y => Value.string (txt y)).toArray := by
    rw [← e4, Lib.cellsOf_full, List.map_map]
    rfl
  rw [e4, e5] at g
  have G := Lib.hid g
  clear g e3 e4 e5 h1 h2 e h hle
  go_enter Tryz.func90, Tryz.ntmps90
  go_wp2_with fail
  refine G.out.mono ?_
  rintro e w' ⟨rfl, hw⟩
  have HW := Lib.hid hw
  clear hw
  go_wp2_with fail
  go_ret
  exact ⟨rfl, HW.out⟩

end Go.Proofs.YtmolpkjdjkhnpabGreatDoor

/-
  The program's line of a name and numbers.
-/
namespace Go.Proofs.YtmolpkjdjkhnpabGreatDoor
open Go.RowKit

/-- A name and numbers, with a blank before each number. -/
def numsT (l : List Int) : List UInt8 := l.flatMap fun n => 32 :: Lib.itoa n
theorem numsT_join (nm : List UInt8) (l : List Int) : Lib.join (nm :: l.map Lib.itoa) [32] = nm ++ numsT l := by
  rw [Lib.join_cons]
  congr 1
  induction l with
  | nil => rfl
  | cons x l ih =>
    simp only [Lib.joinTail, numsT, List.map_cons, List.flatten_cons, List.flatMap_cons] at ih ⊢
    rw [ih]
    simp
theorem infoStrN : (Tryz.prog.info? 9).map (fun i => (i.zero, i.size, i.bytes)) = some (some (.string ⟨#[]⟩), 1, 16) := by kernel_rfl
theorem one_str (w : World) (x : Value) (t : TypeId) : ∀ (j : Nat) u, [x][j]? = some u → (w.alloc (.cells #[x] t)).cell? ((⟨w.heap.size, 0, none⟩ : Addr).add j) = some u := by
  intro j u hj
  match j, hj with
  | 0, hj => simp at hj; subst hj; simp [Addr.add]
theorem row_shapeS {w : World} {base n : Nat} {e : TypeId} {v : Value} {xs : List Value} (h : w.ownsRow base e 1 v n xs) (h0 : 0 < n) :
    ∃ g cap, v = .slice (some ⟨g, 0, none⟩) n cap ∧ base ≤ g ∧ g < w.heap.size ∧ n ≤ cap ∧ cap ≤ 9223372036854775807 := by
  have hl := World.ownsRow.lt h
  rcases h.2 with ⟨_, h1⟩ | ⟨g, cap, cur, e1, h2, _, h3, h4, _⟩
  · omega
  · exact ⟨g, cap, e1, h2, (hl g (by rw [e1]; rfl)).2, h3, by unfold maxLen at h4; omega⟩

set_option maxRecDepth 100000 in
set_option maxHeartbeats 4000000 in
theorem numbersLine_any (name : ByteArray) (v : Value) (ns : List Int) (w : World) (hr : RdI w v ns) (hn : ns.length ≤ 1048576)
    (hi : ∀ x ∈ ns, ∀ w', Kp w w' → Calls Tryz.prog 70 #[.int .i64 x] w' fun e w'' => e = .returned (.string (txt (Lib.itoa x))) ∧ Kp w' w'')
    (hsz : (name.data.toList ++ numsT ns).length ≤ 1000000000) :
    Calls Tryz.prog 35 #[.string name, v] w fun e w' => e = .returned (.string (txt (name.data.toList ++ numsT ns ++ [10]))) ∧ Kp w w' := by
  obtain ⟨A, c, rfl, hA⟩ := hr
  obtain ⟨j0, hj0, hz0, hs0, hb0⟩ := info_parts infoStrN
  obtain ⟨n, hnl⟩ : ∃ n, ns.length = n := ⟨_, rfl⟩
  rw [hnl] at hA hn ⊢
  have HN := Lib.hid hnl
  have HA := Lib.hid hA
  have HI := Lib.hid hi
  have HSZ := Lib.hid hsz
  have R0 : Hid ((w.alloc (.cells #[.string name] 9)).ownsRow w.heap.size 9 1 (.slice (some ⟨w.heap.size, 0, none⟩) 1 1) (0 + 1) ((name :: (ns.take 0).map fun x => txt (Lib.itoa x)).map Value.string)) := Lib.hid
    ⟨rfl, .inr ⟨w.heap.size, 1, #[.string name], rfl, Nat.le_refl _, Array.getElem?_push_size, Nat.le_refl _, by decide, rfl, rfl⟩⟩
  clear hnl hA hi hsz
  go_enter Tryz.func35, Tryz.ntmps35
  go_wp2_with fail
  go_loopw [5, 7, 12] (fun v _ i wr => ∃ q : Nat, q ≤ n ∧ i = .int .i64 q ∧ Hid (wr.ownsRow w.heap.size 9 1 v (q + 1) ((name :: (ns.take q).map fun x => txt (Lib.itoa x)).map Value.string)) ∧ Kp w wr) (fun _ _ i _ => n - (intOf i).toNat)
  case atStart => exact ⟨0, by omega, rfl, R0, (Kp.refl w).alloc _⟩
  case round =>
    clear R0
    obtain ⟨q, hq, rfl, HO, kr⟩ := hrel
    have hz := kr.size
    by_cases hlt : q < n
    · have hlt' : (q : Int) < n := by omega
      obtain ⟨x, hx⟩ : ∃ x, ns[q]? = some x := ⟨ns[q]'(by have := HN.out; omega), List.getElem?_eq_getElem _⟩
      obtain ⟨g, off, rfl, hc⟩ := HA.out (by have := HN.out; omega)
      have a0 := kr.cell (hc q x hx)
      have CX := Lib.hid (HI.out x (List.mem_of_getElem? hx) _ kr)
      obtain ⟨s, hs⟩ : ∃ s, txt (Lib.itoa x) = s := ⟨_, rfl⟩
      rw [hs] at CX
      have HM : Hid ((name :: (ns.take (q + 1)).map fun x => txt (Lib.itoa x)).map Value.string = (name :: (ns.take q).map fun x => txt (Lib.itoa x)).map Value.string ++ [.string s]) := Lib.hid (by
        rw [List.take_add_one, hx, ← hs]
        simp)
      clear hx hc hs
      go_wp2_with fail
      refine CX.out.mono ?_
      rintro e1 w1 ⟨rfl, k1⟩
      have HO1 := Lib.hid (ownsRow_keep HO.out k1)
      have K1 := kr.trans k1
      have hz1 : w.heap.size ≤ w1.heap.size := by have := k1.size; omega
      clear k1 kr
      go_wp2_with (at_builtin; refine wpList_append_own_at _ rfl (.tmp 16) (.tmp 19) 105 rfl w.heap.size 9 j0 (.string ⟨#[]⟩) 1 16 Tryz.underlying105 hj0 hz0 hs0 hb0 rfl (by decide) _ (q + 1) _ rfl (World.ownsRow.alloc HO1.out _) ⟨w1.heap.size, 0, none⟩ 1 1 [.string s] rfl rfl (one_str _ _ _) (by simp [Value.oneCell']) (by simp only [maxLen]; omega) (by omega) (by simp <;> omega) ?_; intro v1 w3 hown2 hgrow2 hnil2 hat2; clear hnil2 hat2; have O3 : Hid (w3.ownsRow w.heap.size 9 1 v1 (q + 1 + 1) ((name :: (ns.take (q + 1)).map fun x => txt (Lib.itoa x)).map Value.string)) := Lib.hid (by rw [HM.out]; exact hown2); have K3 : Kp w w3 := (K1.alloc _).grown hgrow2 (fun k e => (World.ownsRow.lt HO1.out k e).1); clear hown2 hgrow2)
      go_roundw
      case rel => exact ⟨q + 1, by omega, by go_num, O3, K3⟩
      case measure => simp [intOf]; omega
    · obtain rfl : q = n := by omega
      obtain ⟨g4, c4, ev, hg4, hg5, hg6, hg7⟩ := row_shapeS HO.out (by omega)
      subst ev
      obtain ⟨xs, hxs⟩ : ∃ xs, xs = name :: ns.map fun x => txt (Lib.itoa x) := ⟨_, rfl⟩
      have hxl : xs.length = q + 1 := by rw [hxs, List.length_cons, List.length_map, HN.out]
      have HX : Hid (wr.ownsRow w.heap.size 9 1 (.slice (some ⟨g4, 0, none⟩) (q + 1) c4) (q + 1) (xs.map Value.string)) := Lib.hid (by
        have h1 := HO.out
        rw [List.take_of_length_le (by rw [HN.out]; omega), ← hxs] at h1
        exact h1)
      have hxd : xs.map (·.data.toList) = name.data.toList :: ns.map Lib.itoa := by
        rw [hxs, List.map_cons, List.map_map]
        congr 1
      have CJ := Lib.hid (Tryz.strings_Join g4 0 c4 xs ⟨#[32]⟩ wr (fun j x hx => by
        have h1 := World.ownsRow.cellAt HX.out j (by have := (List.getElem?_eq_some_iff.1 hx).1; omega)
        rw [Nat.zero_add]
        exact h1.trans (by rw [List.getElem?_map, hx]; rfl)) hg5 (by omega) (by omega) (by rw [hxd, show (ByteArray.mk #[32]).data.toList = [32] from rfl, numsT_join]; exact Nat.le_trans HSZ.out (by decide)))
      rw [hxl, hxd, show (ByteArray.mk #[32]).data.toList = [32] from rfl, numsT_join] at CJ
      obtain ⟨s, hs⟩ : ∃ s, s = ByteArray.mk (name.data.toList ++ numsT ns).toArray := ⟨_, rfl⟩
      rw [← hs] at CJ
      have hsz : s.size ≤ 1000000000 := by
        rw [hs]
        show (name.data.toList ++ numsT ns).toArray.size ≤ _
        rw [List.size_toArray]
        exact HSZ.out
      have HT : Hid (s ++ ByteArray.mk #[10] = txt (name.data.toList ++ numsT ns ++ [10])) := Lib.hid (by rw [hs, show ByteArray.mk #[10] = txt [10] from rfl]; exact txt_app _ _)
      have y1 : ¬ 9223372036854775807 < s.size + 1 := by omega
      clear hxl hxd hxs hs HX HO
      go_wp2_with fail
      refine CJ.out.mono ?_
      rintro e3 w3 ⟨rfl, k3⟩
      go_wp2_with fail
      go_ret
      exact ⟨by rw [HT.out] <;> rfl, kr.trans k3⟩

end Go.Proofs.YtmolpkjdjkhnpabGreatDoor

/-
  The lines of kinds and terrains as bytes: as the reference adds them up, and as filled forms.
-/
namespace Go.Proofs.YtmolpkjdjkhnpabGreatDoor
open Go.RowKit

def kindWs : List (List UInt8) := [[107, 105, 110, 100], [78, 65, 77, 69], [115, 116, 114, 101, 110, 103, 116, 104], [78], [109, 111, 118, 101, 115], [78], [115, 116, 101, 112, 115], [78], [118, 105, 101, 119], [78]]
def kindTx (k : Knd) : List UInt8 :=
  [107, 105, 110, 100, 32] ++ k.name.data.toList ++ [32, 115, 116, 114, 101, 110, 103, 116, 104, 32] ++ Lib.decDigits k.str.toNat ++ [32, 109, 111, 118, 101, 115, 32] ++ Lib.decDigits k.mov.toNat ++ [32, 115, 116, 101, 112, 115, 32] ++ Lib.decDigits k.stp.toNat ++ [32, 118, 105, 101, 119, 32] ++ Lib.decDigits k.view.toNat ++ (if k.zone then [32, 122, 111, 110, 101] else [])
def costsT (l : List Int) : List UInt8 := l.flatMap fun n => 32 :: Lib.decDigits n.toNat
def terTx (t : Ter) : List UInt8 :=
  [116, 101, 114, 114, 97, 105, 110, 32] ++ t.name.data.toList ++ [32, 115, 104, 105, 102, 116, 32] ++ Lib.itoa t.shift ++ [32, 104, 101, 105, 103, 104, 116, 32] ++ Lib.decDigits t.height.toNat ++ [32, 99, 111, 115, 116] ++ costsT t.cost ++ (if t.blocks then [32, 98, 108, 111, 99, 107, 115] else [])
def terWs (n : Nat) : List (List UInt8) := [[116, 101, 114, 114, 97, 105, 110], [78, 65, 77, 69], [115, 104, 105, 102, 116], [78], [104, 101, 105, 103, 104, 116], [78], [99, 111, 115, 116]] ++ List.replicate n [78]

theorem itoa_pos {n : Int} (h : 0 ≤ n) : Lib.itoa n = Lib.decDigits n.toNat := by
  unfold Lib.itoa
  rw [if_neg (by omega)]

theorem kind_fill (nm : List UInt8) (a b c v : Int) : Lib.join (fillW kindWs nm [a, b, c, v]) [32] =
    [107, 105, 110, 100, 32] ++ nm ++ [32, 115, 116, 114, 101, 110, 103, 116, 104, 32] ++ Lib.itoa a ++ [32, 109, 111, 118, 101, 115, 32] ++ Lib.itoa b ++ [32, 115, 116, 101, 112, 115, 32] ++ Lib.itoa c ++ [32, 118, 105, 101, 119, 32] ++ Lib.itoa v := by
  simp [fillW, kindWs, Lib.join_cons, Lib.joinTail]
theorem kind_tx (k : Knd) (h1 : 0 ≤ k.str) (h2 : 0 ≤ k.mov) (h3 : 0 ≤ k.stp) (h4 : 0 ≤ k.view) :
    kindTx k = Lib.join (fillW kindWs k.name.data.toList [k.str, k.mov, k.stp, k.view]) [32] ++ (if k.zone then [32, 122, 111, 110, 101] else []) := by
  rw [kind_fill, itoa_pos h1, itoa_pos h2, itoa_pos h3, itoa_pos h4]
  rfl

theorem fill_costs (nm : List UInt8) : ∀ (l : List Int), fillW (List.replicate l.length [78]) nm l = l.map Lib.itoa
  | [] => rfl
  | x :: l => by
    rw [List.length_cons, List.replicate_succ, fillW, if_neg (by decide), if_pos rfl]
    simp [fill_costs nm l]
theorem costs_tail : ∀ (l : List Int), (∀ x ∈ l, 0 ≤ x) → Lib.joinTail [32] (l.map Lib.itoa) = costsT l
  | [], _ => rfl
  | x :: l, h => by
    have h1 := costs_tail l (fun y hy => h y (List.mem_cons_of_mem _ hy))
    have h2 := itoa_pos (h x (List.mem_cons_self ..))
    simp only [Lib.joinTail, costsT, List.map_cons, List.flatten_cons, List.flatMap_cons] at h1 ⊢
    rw [h1, h2]
    simp
theorem ter_tx (t : Ter) (h1 : 0 ≤ t.height) (h2 : ∀ x ∈ t.cost, 0 ≤ x) :
    terTx t = Lib.join (fillW (terWs t.cost.length) t.name.data.toList (t.shift :: t.height :: t.cost)) [32] ++ (if t.blocks then [32, 98, 108, 111, 99, 107, 115] else []) := by
  have e : fillW (terWs t.cost.length) t.name.data.toList (t.shift :: t.height :: t.cost) = [[116, 101, 114, 114, 97, 105, 110], t.name.data.toList, [115, 104, 105, 102, 116], Lib.itoa t.shift, [104, 101, 105, 103, 104, 116], Lib.itoa t.height, [99, 111, 115, 116]] ++ t.cost.map Lib.itoa := by
    simp [fillW, terWs, fill_costs]
  have e2 : Lib.joinTail [32] ([t.name.data.toList, [115, 104, 105, 102, 116], Lib.itoa t.shift, [104, 101, 105, 103, 104, 116], Lib.itoa t.height, [99, 111, 115, 116]] ++ t.cost.map Lib.itoa) = Lib.joinTail [32] [t.name.data.toList, [115, 104, 105, 102, 116], Lib.itoa t.shift, [104, 101, 105, 103, 104, 116], Lib.itoa t.height, [99, 111, 115, 116]] ++ costsT t.cost := by
    rw [← costs_tail _ h2]
    simp [Lib.joinTail]
  rw [e, List.cons_append, Lib.join_cons, e2, itoa_pos h1]
  simp [terTx, Lib.joinTail]

/-- Lengths. -/
theorem digits_len2 {n : Nat} (h : n < 100) : (Lib.decDigits n).length ≤ 2 := by
  have e : (Lib.decDigits n).length = Lib.nDigits n := by simp [Lib.decDigits_eq]
  rw [e]
  by_cases h0 : n < 10
  · rw [Lib.nDigits_small h0]; omega
  · rw [Lib.nDigits_big h0, Lib.nDigits_small (by omega)]; omega
theorem costsT_len : ∀ (l : List Int), (∀ x ∈ l, x < 100) → (costsT l).length ≤ 3 * l.length
  | [], _ => by simp [costsT]
  | x :: l, h => by
    have h1 := costsT_len l (fun y hy => h y (List.mem_cons_of_mem _ hy))
    have h2 := h x (List.mem_cons_self ..)
    have h3 := digits_len2 (n := x.toNat) (by omega)
    have e : costsT (x :: l) = (32 :: Lib.decDigits x.toNat) ++ costsT l := by simp [costsT]
    rw [e, List.length_append, List.length_cons, List.length_cons]
    omega
theorem kindTx_len (k : Knd) (h0 : k.name.size ≤ 8) (h1 : k.str < 100) (h2 : k.mov < 100) (h3 : k.stp < 100) (h4 : k.view < 100) : (kindTx k).length ≤ 64 := by
  have a1 := digits_len2 (n := k.str.toNat) (by omega)
  have a2 := digits_len2 (n := k.mov.toNat) (by omega)
  have a3 := digits_len2 (n := k.stp.toNat) (by omega)
  have a4 := digits_len2 (n := k.view.toNat) (by omega)
  have a0 : k.name.data.toList.length ≤ 8 := h0
  unfold kindTx
  cases k.zone <;> simp only [List.length_append, List.length_cons, List.length_nil, Bool.false_eq_true, if_true, if_false] <;> omega
theorem itoa_len2 {n : Int} (h : -100 < n) (h' : n < 100) : (Lib.itoa n).length ≤ 3 := by
  unfold Lib.itoa
  split
  · have := digits_len2 (n := n.natAbs) (by omega)
    rw [List.length_cons]
    omega
  · have := digits_len2 (n := n.toNat) (by omega)
    omega
theorem terTx_len (t : Ter) (h0 : t.name.size ≤ 8) (h1 : -100 < t.shift) (h2 : t.shift < 100) (h3 : t.height < 100) (h4 : ∀ x ∈ t.cost, x < 100) : (terTx t).length ≤ 64 + 3 * t.cost.length := by
  have a1 := itoa_len2 h1 h2
  have a3 := digits_len2 (n := t.height.toNat) (by omega)
  have a4 := costsT_len t.cost h4
  have a0 : t.name.data.toList.length ≤ 8 := h0
  unfold terTx
  cases t.blocks <;> simp only [List.length_append, List.length_cons, List.length_nil, Bool.false_eq_true, if_true, if_false] <;> omega

end Go.Proofs.YtmolpkjdjkhnpabGreatDoor

/-
  The text of a map as bytes.
-/
namespace Go.Proofs.YtmolpkjdjkhnpabGreatDoor
open Go.RowKit

/-- The rows of terrain, as far as the i-th hex. -/
def gT (n : Nat) (l : List Int) : Nat → List UInt8
  | 0 => []
  | i + 1 => gT n l i ++ Lib.decDigits (l.getD i 0).toNat ++ (if i % n = n - 1 then [10] else [])
def mapTx (W H : Int) (lt lr ld : List Int) : List UInt8 :=
  [109, 97, 112, 32] ++ Lib.decDigits W.toNat ++ [32] ++ Lib.decDigits H.toNat ++ [10] ++ gT W.toNat lt lt.length ++ ([114, 105, 118, 101, 114, 115] ++ numsT lr ++ [10]) ++ ([114, 111, 97, 100, 115] ++ numsT ld ++ [10])

theorem gT_more {n : Nat} {l : List Int} {i : Nat} {x : Int} (h : l[i]? = some x) : gT n l (i + 1) = gT n l i ++ Lib.decDigits x.toNat ++ (if i % n = n - 1 then [10] else []) := by
  have e : l.getD i 0 = x := by simp [List.getD, h]
  rw [gT, e]
theorem gT_len (n : Nat) (l : List Int) (h : ∀ x ∈ l, 0 ≤ x ∧ x < 100) : ∀ i, (gT n l i).length ≤ 3 * i
  | 0 => by simp [gT]
  | i + 1 => by
    have h1 := gT_len n l h i
    have h2 : (Lib.decDigits (l.getD i 0).toNat).length ≤ 2 := by
      refine digits_len2 ?_
      by_cases hi : i < l.length
      · have e : l.getD i 0 = l[i] := by simp [List.getD, hi]
        have := h _ (List.getElem_mem hi)
        rw [e]
        omega
      · have e : l.getD i 0 = 0 := by simp [List.getD, hi]
        rw [e]
        decide
    have h3 : (if i % n = n - 1 then ([10] : List UInt8) else []).length ≤ 1 := by split <;> simp
    rw [gT, List.length_append, List.length_append]
    omega
theorem digits_len3 {n : Nat} (h : n < 1000) : (Lib.decDigits n).length ≤ 3 := by
  have e : (Lib.decDigits n).length = Lib.nDigits n := by simp [Lib.decDigits_eq]
  rw [e]
  by_cases h0 : n < 10
  · rw [Lib.nDigits_small h0]; omega
  · rw [Lib.nDigits_big h0]
    by_cases h1 : n / 10 < 10
    · rw [Lib.nDigits_small h1]; omega
    · rw [Lib.nDigits_big h1, Lib.nDigits_small (by omega)]; omega
theorem numsT_len : ∀ (l : List Int), (∀ x ∈ l, 0 ≤ x ∧ x < 1000) → (numsT l).length ≤ 4 * l.length
  | [], _ => by simp [numsT]
  | x :: l, h => by
    have h1 := numsT_len l (fun y hy => h y (List.mem_cons_of_mem _ hy))
    have h2 := h x (List.mem_cons_self ..)
    have h3 := digits_len3 (n := x.toNat) (by omega)
    have e : numsT (x :: l) = (32 :: Lib.itoa x) ++ numsT l := by simp [numsT]
    rw [e, itoa_pos h2.1, List.length_append, List.length_cons, List.length_cons]
    omega
theorem numsT_more {l : List Int} {q : Nat} {x : Int} (h : l[q]? = some x) : numsT (l.take (q + 1)) = numsT (l.take q) ++ (32 :: Lib.itoa x) := by
  rw [List.take_add_one, h]
  simp [numsT]

theorem rise_pos : ∀ (l : List Int) (p : Int), -1 ≤ p → riseFrom p l = true → ∀ x ∈ l, 0 ≤ x
  | [], _, _, _, x, hx => by simp at hx
  | y :: l, p, hp, h, x, hx => by
    simp only [riseFrom, Bool.and_eq_true, decide_eq_true_iff] at h
    rcases List.mem_cons.1 hx with rfl | hx
    · omega
    · exact rise_pos l y (by omega) h.2 x hx
theorem edges_bd {W H : Int} {l : List Int} (h : edgesOk W H l = true) (hA : W * H ≤ 100) : ∀ x ∈ l, 0 ≤ x ∧ x < 1000 := by
  rw [edgesOk_eq, Bool.and_eq_true] at h
  intro x hx
  have h0 := rise_pos l (-1) (by omega) h.2 x hx
  have h1 := List.all_eq_true.1 h.1 x hx
  simp only [edgeB, nbB, Bool.and_eq_true] at h1
  have h2 : 0 ≤ x.tdiv 3 ∧ x.tdiv 3 < W * H := onI_true (by first | exact h1.1 | exact h1.1.1 | exact h1.1.1.1)
  rw [Int.tdiv_eq_ediv_of_nonneg h0] at h2
  omega

end Go.Proofs.YtmolpkjdjkhnpabGreatDoor

/-
  What valid rules say of each kind and terrain: how long its name is, how great its numbers are.
-/
namespace Go.Proofs.YtmolpkjdjkhnpabGreatDoor
open Go.RowKit

theorem spB_bd {lo hi n : Int} (h : spB lo hi n = true) : lo ≤ n ∧ n ≤ hi := by
  simpa [spB] using h
theorem namesOk_size {l : List ByteArray} (h : namesOk l = true) {i : Nat} {x : ByteArray} (hx : l[i]? = some x) : x.size ≤ 8 := by
  have h1 := allN_at h (List.getElem?_eq_some_iff.1 hx).1
  have e : l.getD i ByteArray.empty = x := by simp [List.getD, hx]
  simp only [nameAt, e, Bool.and_eq_true, nameOk] at h1
  have := spB_bd h1.1.1
  omega
structure KndSm (k : Knd) : Prop where
  nm : k.name.size ≤ 8
  str : 0 ≤ k.str ∧ k.str < 100
  mov : 0 ≤ k.mov ∧ k.mov < 100
  stp : 0 ≤ k.stp ∧ k.stp < 100
  view : 0 ≤ k.view ∧ k.view < 100
structure TerSm (t : Ter) (nk : Nat) : Prop where
  nm : t.name.size ≤ 8
  len : t.cost.length = nk
  cost : ∀ x ∈ t.cost, 0 ≤ x ∧ x < 100
  shift : -100 < t.shift ∧ t.shift < 100
  height : 0 ≤ t.height ∧ t.height < 100
theorem rulOk_len {l : List Ter} {m : List Knd} {a b c d e : Int} (h : rulOk ⟨l, m, a, b, c, d, e⟩ = true) : (1 ≤ l.length ∧ l.length ≤ 6) ∧ (1 ≤ m.length ∧ m.length ≤ 4) := by
  simp only [rulOk, Bool.and_eq_true] at h
  have h1 := spB_bd h.1.1
  have h2 := spB_bd h.1.2.1
  omega
theorem rulOk_lim {l : List Ter} {m : List Knd} {a b c d e : Int} (h : rulOk ⟨l, m, a, b, c, d, e⟩ = true) : (0 ≤ a ∧ a < 100) ∧ (0 ≤ b ∧ b < 100) ∧ (0 ≤ c ∧ c < 100) ∧ (0 ≤ d ∧ d < 100) ∧ (0 ≤ e ∧ e < 100) := by
  simp only [rulOk, limB, Bool.and_eq_true] at h
  have h1 := spB_bd h.1.2.2.1
  have h2 := spB_bd h.1.2.2.2.1
  have h3 := spB_bd h.1.2.2.2.2.1
  have h4 := spB_bd h.1.2.2.2.2.2.1
  have h5 := spB_bd h.1.2.2.2.2.2.2
  omega
theorem rulOk_knd {l : List Ter} {m : List Knd} {a b c d e : Int} (h : rulOk ⟨l, m, a, b, c, d, e⟩ = true) {i : Nat} {k : Knd} (hk : m[i]? = some k) : KndSm k := by
  simp only [rulOk, Bool.and_eq_true] at h
  have h1 := List.all_eq_true.1 h.2.2.1 k (List.mem_of_getElem? hk)
  simp only [numK, Bool.and_eq_true] at h1
  have b1 := spB_bd h1.1
  have b2 := spB_bd h1.2.1
  have b3 := spB_bd h1.2.2.1
  have b4 := spB_bd h1.2.2.2
  exact ⟨namesOk_size h.2.2.2.2 (i := i) (by simp [kNames, hk]), by omega, by omega, by omega, by omega⟩
theorem rulOk_ter {l : List Ter} {m : List Knd} {a b c d e : Int} (h : rulOk ⟨l, m, a, b, c, d, e⟩ = true) {i : Nat} {t : Ter} (ht : l[i]? = some t) : TerSm t m.length := by
  simp only [rulOk, Bool.and_eq_true] at h
  have h1 := List.all_eq_true.1 h.2.1 t (List.mem_of_getElem? ht)
  simp only [numT, Bool.and_eq_true, decide_eq_true_iff] at h1
  have b1 := spB_bd h1.2.2.1
  have b2 := spB_bd h1.2.2.2
  refine ⟨namesOk_size h.2.2.2.1 (i := i) (by simp [tNames, ht]), h1.1, fun x hx => ?_, by omega, by omega⟩
  have := spB_bd (List.all_eq_true.1 h1.2.1 x hx)
  omega

end Go.Proofs.YtmolpkjdjkhnpabGreatDoor

/-
  The lines of kinds and terrains, as the reference writes them.
-/
namespace Go.Proofs.YtmolpkjdjkhnpabGreatDoor
open Go.RowKit

theorem ret_str {a b : ByteArray} (h : a = b) : Ending.returned (.string a) = .returned (.string b) := by rw [h]
theorem txt_nil : txt [] = ByteArray.empty := rfl

set_option maxRecDepth 100000 in
set_option maxHeartbeats 1000000 in
theorem l1Int_any (n : Int) (w : World) (h1 : -1000000 < n) (h2 : n < 1000000) :
    Calls Tryz.prog 83 #[.int .i64 n] w fun e w' => e = .returned (.string (txt (Lib.itoa n))) ∧ Kp w w' := by
  by_cases h0 : n < 0
  · obtain ⟨k, hk⟩ : ∃ k : Nat, -n = (k : Int) := ⟨(-n).toNat, by omega⟩
    have hk2 : k ≤ 1000000 := by omega
    have CA := Lib.hid (fun w => l1Num_any k w (by omega))
    have hz := decT_len k
    obtain ⟨s, hs⟩ : ∃ s, decT k = s := ⟨_, rfl⟩
    rw [hs] at CA hz
    have HR : Hid (ByteArray.mk #[45] ++ s = txt (Lib.itoa n)) := Lib.hid (by
      rw [← hs, decT_txt, show ByteArray.mk #[45] = txt [45] from rfl, txt_app]
      unfold Lib.itoa
      rw [if_pos h0, show n.natAbs = k by omega]
      rfl)
    have y1 : ¬ 9223372036854775807 < 1 + s.size := by omega
    have e1 : IntKind.i64.wrap (-n) = (k : Int) := by rw [hk]; exact IntWalk.i64_in _ (by omega)
    have e2 : -n = (k : Int) := hk
    clear hs
    go_enter Tryz.func83, Tryz.ntmps83
    go_wp2_with fail
    refine (CA.out _).mono ?_
    rintro e1 w1 ⟨rfl, k1⟩
    go_wp2_with fail
    go_ret
    exact ⟨ret_str HR.out, k1⟩
  · obtain ⟨k, rfl⟩ : ∃ k : Nat, n = (k : Int) := ⟨n.toNat, by omega⟩
    have CA := Lib.hid (fun w => l1Num_any k w (by omega))
    have HR : Hid (decT k = txt (Lib.itoa (k : Int))) := Lib.hid (by
      rw [decT_txt]
      unfold Lib.itoa
      rw [if_neg h0, Int.toNat_natCast])
    go_enter Tryz.func83, Tryz.ntmps83
    go_wp2_with fail
    refine (CA.out _).mono ?_
    rintro e1 w1 ⟨rfl, k1⟩
    go_wp2_with fail
    go_ret
    exact ⟨ret_str HR.out, k1⟩

set_option maxRecDepth 100000 in
set_option maxHeartbeats 8000000 in
theorem bfKind_any (nm : ByteArray) (a b c v : Nat) (z : Bool) (w : World) (hn : nm.size ≤ 8) (ha : a < 100) (hb : b < 100) (hc : c < 100) (hv : v < 100) :
    Calls Tryz.prog 56 #[kv nm a b c z v] w fun e w' => e = .returned (.string (txt (kindTx ⟨nm, a, b, c, z, v⟩))) ∧ Kp w w' := by
  have CA := Lib.hid (fun w => l1Num_any a w (by omega))
  obtain ⟨sa, hsa⟩ : ∃ y, decT a = y := ⟨_, rfl⟩
  have zsa : sa.size ≤ 2 := by rw [← hsa, decT_txt, txt_size]; exact dec_len (by omega)
  rw [hsa] at CA
  have CB := Lib.hid (fun w => l1Num_any b w (by omega))
  obtain ⟨sb, hsb⟩ : ∃ y, decT b = y := ⟨_, rfl⟩
  have zsb : sb.size ≤ 2 := by rw [← hsb, decT_txt, txt_size]; exact dec_len (by omega)
  rw [hsb] at CB
  have CC := Lib.hid (fun w => l1Num_any c w (by omega))
  obtain ⟨sc, hsc⟩ : ∃ y, decT c = y := ⟨_, rfl⟩
  have zsc : sc.size ≤ 2 := by rw [← hsc, decT_txt, txt_size]; exact dec_len (by omega)
  rw [hsc] at CC
  have CD := Lib.hid (fun w => l1Num_any v w (by omega))
  obtain ⟨sd, hsd⟩ : ∃ y, decT v = y := ⟨_, rfl⟩
  have zsd : sd.size ≤ 2 := by rw [← hsd, decT_txt, txt_size]; exact dec_len (by omega)
  rw [hsd] at CD
  obtain ⟨q1, hq1⟩ : ∃ y, (ByteArray.mk #[107, 105, 110, 100, 32]) ++ nm = y := ⟨_, rfl⟩
  have zq1 : q1.size ≤ 13 := by rw [← hq1, ByteArray.size_append]; have : (ByteArray.mk #[107, 105, 110, 100, 32]).size = 5 := rfl; omega
  have yq1 : ¬ 9223372036854775807 < 5 + nm.size := by omega
  obtain ⟨q2, hq2⟩ : ∃ y, q1 ++ (ByteArray.mk #[32, 115, 116, 114, 101, 110, 103, 116, 104, 32]) = y := ⟨_, rfl⟩
  have zq2 : q2.size ≤ 23 := by rw [← hq2, ByteArray.size_append]; have : (ByteArray.mk #[32, 115, 116, 114, 101, 110, 103, 116, 104, 32]).size = 10 := rfl; omega
  have yq2 : ¬ 9223372036854775807 < q1.size + 10 := by omega
  obtain ⟨q3, hq3⟩ : ∃ y, q2 ++ sa = y := ⟨_, rfl⟩
  have zq3 : q3.size ≤ 25 := by rw [← hq3, ByteArray.size_append]; omega
  have yq3 : ¬ 9223372036854775807 < q2.size + sa.size := by omega
  obtain ⟨q4, hq4⟩ : ∃ y, q3 ++ (ByteArray.mk #[32, 109, 111, 118, 101, 115, 32]) = y := ⟨_, rfl⟩
  have zq4 : q4.size ≤ 32 := by rw [← hq4, ByteArray.size_append]; have : (ByteArray.mk #[32, 109, 111, 118, 101, 115, 32]).size = 7 := rfl; omega
  have yq4 : ¬ 9223372036854775807 < q3.size + 7 := by omega
  obtain ⟨q5, hq5⟩ : ∃ y, q4 ++ sb = y := ⟨_, rfl⟩
  have zq5 : q5.size ≤ 34 := by rw [← hq5, ByteArray.size_append]; omega
  have yq5 : ¬ 9223372036854775807 < q4.size + sb.size := by omega
  obtain ⟨q6, hq6⟩ : ∃ y, q5 ++ (ByteArray.mk #[32, 115, 116, 101, 112, 115, 32]) = y := ⟨_, rfl⟩
  have zq6 : q6.size ≤ 41 := by rw [← hq6, ByteArray.size_append]; have : (ByteArray.mk #[32, 115, 116, 101, 112, 115, 32]).size = 7 := rfl; omega
  have yq6 : ¬ 9223372036854775807 < q5.size + 7 := by omega
  obtain ⟨q7, hq7⟩ : ∃ y, q6 ++ sc = y := ⟨_, rfl⟩
  have zq7 : q7.size ≤ 43 := by rw [← hq7, ByteArray.size_append]; omega
  have yq7 : ¬ 9223372036854775807 < q6.size + sc.size := by omega
  obtain ⟨q8, hq8⟩ : ∃ y, q7 ++ (ByteArray.mk #[32, 118, 105, 101, 119, 32]) = y := ⟨_, rfl⟩
  have zq8 : q8.size ≤ 49 := by rw [← hq8, ByteArray.size_append]; have : (ByteArray.mk #[32, 118, 105, 101, 119, 32]).size = 6 := rfl; omega
  have yq8 : ¬ 9223372036854775807 < q7.size + 6 := by omega
  obtain ⟨q9, hq9⟩ : ∃ y, q8 ++ sd = y := ⟨_, rfl⟩
  have zq9 : q9.size ≤ 51 := by rw [← hq9, ByteArray.size_append]; omega
  have yq9 : ¬ 9223372036854775807 < q8.size + sd.size := by omega
  have HR : Hid (q9 ++ (if z then ByteArray.mk #[32, 122, 111, 110, 101] else ⟨#[]⟩) = txt (kindTx ⟨nm, a, b, c, z, v⟩)) := Lib.hid (by
    rw [← hq9, ← hq8, ← hq7, ← hq6, ← hq5, ← hq4, ← hq3, ← hq2, ← hq1, ← hsa, ← hsb, ← hsc, ← hsd, decT_txt, decT_txt, decT_txt, decT_txt, ← txt_of nm]
    unfold kindTx
    simp only [Int.toNat_natCast]
    cases z <;> simp [txt] <;> (apply ByteArray.ext; simp [ByteArray.data_append]))
  have yl : ¬ 9223372036854775807 < q9.size + 5 := by omega
  have s1 : (w.alloc (.cells #[.string nm, .int .i64 (a : Int), .int .i64 (b : Int), .int .i64 (c : Int), .bool z, .int .i64 (v : Int)] 82)).drew.cell? ⟨w.heap.size, 0, none⟩ = some (.string nm) ∧ (w.alloc (.cells #[.string nm, .int .i64 (a : Int), .int .i64 (b : Int), .int .i64 (c : Int), .bool z, .int .i64 (v : Int)] 82)).drew.cell? ⟨w.heap.size, 1, none⟩ = some (.int .i64 (a : Int)) ∧ (w.alloc (.cells #[.string nm, .int .i64 (a : Int), .int .i64 (b : Int), .int .i64 (c : Int), .bool z, .int .i64 (v : Int)] 82)).drew.cell? ⟨w.heap.size, 2, none⟩ = some (.int .i64 (b : Int)) ∧ (w.alloc (.cells #[.string nm, .int .i64 (a : Int), .int .i64 (b : Int), .int .i64 (c : Int), .bool z, .int .i64 (v : Int)] 82)).drew.cell? ⟨w.heap.size, 3, none⟩ = some (.int .i64 (c : Int)) ∧ (w.alloc (.cells #[.string nm, .int .i64 (a : Int), .int .i64 (b : Int), .int .i64 (c : Int), .bool z, .int .i64 (v : Int)] 82)).drew.cell? ⟨w.heap.size, 4, none⟩ = some (.bool z) ∧ (w.alloc (.cells #[.string nm, .int .i64 (a : Int), .int .i64 (b : Int), .int .i64 (c : Int), .bool z, .int .i64 (v : Int)] 82)).drew.cell? ⟨w.heap.size, 5, none⟩ = some (.int .i64 (v : Int)) ∧ Kp w (w.alloc (.cells #[.string nm, .int .i64 (a : Int), .int .i64 (b : Int), .int .i64 (c : Int), .bool z, .int .i64 (v : Int)] 82)).drew := ⟨by simp [go_sem], by simp [go_sem], by simp [go_sem], by simp [go_sem], by simp [go_sem], by simp [go_sem], ((Kp.refl w).alloc _).drew⟩
  clear hsa hsb hsc hsd ha hb hc hv hn
  go_enter Tryz.func56, Tryz.ntmps56
  go_wp2_with fail
  refine wp_region_held_drew (S := (fun w' => w'.cell? ⟨w.heap.size, 0, none⟩ = some (.string nm) ∧ w'.cell? ⟨w.heap.size, 1, none⟩ = some (.int .i64 (a : Int)) ∧ w'.cell? ⟨w.heap.size, 2, none⟩ = some (.int .i64 (b : Int)) ∧ w'.cell? ⟨w.heap.size, 3, none⟩ = some (.int .i64 (c : Int)) ∧ w'.cell? ⟨w.heap.size, 4, none⟩ = some (.bool z) ∧ w'.cell? ⟨w.heap.size, 5, none⟩ = some (.int .i64 (v : Int)) ∧ Kp w w')) (by kernel_rfl) ?_ (fun hHeld => ?_)
  · exact s1
  refine wpAnyH_take (i := 0) (oi := ⟨some 4, _, _, _, _, _⟩) (v := ?_) rfl (by kernel_rfl) (by kernel_rfl) (by kernel_rfl) (fun _ _ _ h => h) (Or.inl ⟨by rfl, ?_⟩) (by assumption) ?_
  rotate_left
  · intro w hSw; (try dsimp only at hSw); go_simp; (all_goals with_reducible rfl)
  simp only [Act.put, List.setIfInBounds_toArray, List.set_cons_zero, List.set_cons_succ]
  refine wpAnyH_take (i := 1) (oi := ⟨some 5, _, _, _, _, _⟩) (v := ?_) rfl (by kernel_rfl) (by kernel_rfl) (by kernel_rfl) (fun _ _ _ h => h) (Or.inl ⟨by rfl, ?_⟩) (by assumption) ?_
  rotate_left
  · intro w hSw; (try dsimp only at hSw); go_simp; (all_goals with_reducible rfl)
  simp only [Act.put, List.setIfInBounds_toArray, List.set_cons_zero, List.set_cons_succ]
  refine wpAnyH_take (i := 2) (oi := ⟨some 6, _, _, _, _, _⟩) (v := ?_) rfl (by kernel_rfl) (by kernel_rfl) (by kernel_rfl) (fun _ _ _ h => h) (Or.inl ⟨by rfl, ?_⟩) (by assumption) ?_
  rotate_left
  · intro w hSw; (try dsimp only at hSw); go_simp; (all_goals with_reducible rfl)
  simp only [Act.put, List.setIfInBounds_toArray, List.set_cons_zero, List.set_cons_succ]
  refine wpAnyH_take (i := 3) (oi := ⟨some 7, _, _, _, _, _⟩) (v := ?_) rfl (by kernel_rfl) (by kernel_rfl) (by kernel_rfl) (fun _ _ _ h => h) (Or.inl ⟨by rfl, ?_⟩) (by assumption) ?_
  rotate_left
  · intro w hSw; (try dsimp only at hSw); go_simp; (all_goals with_reducible rfl)
  simp only [Act.put, List.setIfInBounds_toArray, List.set_cons_zero, List.set_cons_succ]
  refine wpAnyH_take (i := 4) (oi := ⟨some 8, _, _, _, _, _⟩) (v := ?_) rfl (by kernel_rfl) (by kernel_rfl) (by kernel_rfl) (fun _ _ _ h => h) (Or.inl ⟨by rfl, ?_⟩) (by assumption) ?_
  rotate_left
  · intro w hSw; (try dsimp only at hSw); go_simp; (all_goals with_reducible rfl)
  simp only [Act.put, List.setIfInBounds_toArray, List.set_cons_zero, List.set_cons_succ]
  refine wpAnyH_take (i := 5) (oi := ⟨some 9, _, _, _, _, _⟩) (v := ?_) rfl (by kernel_rfl) (by kernel_rfl) (by kernel_rfl) (fun _ _ _ h => h) (Or.inl ⟨by rfl, ?_⟩) (by assumption) ?_
  rotate_left
  · intro w hSw; (try dsimp only at hSw); go_simp; (all_goals with_reducible rfl)
  simp only [Act.put, List.setIfInBounds_toArray, List.set_cons_zero, List.set_cons_succ]
  refine wpAnyH_take (i := 9) (oi := ⟨some 13, _, _, _, _, _⟩) (v := ?_) rfl (by kernel_rfl) (by kernel_rfl) (by kernel_rfl) (fun _ _ _ h => h) (Or.inl ⟨by rfl, ?_⟩) (by assumption) ?_
  rotate_left
  · intro w hSw; (try dsimp only at hSw); go_simp; (all_goals with_reducible rfl)
  simp only [Act.put, List.setIfInBounds_toArray, List.set_cons_zero, List.set_cons_succ]
  refine wpAnyH_take (i := 10) (oi := ⟨some 14, _, _, _, _, _⟩) (v := ?_) rfl (by kernel_rfl) (by kernel_rfl) (by kernel_rfl) (fun _ _ _ h => h) (Or.inl ⟨by rfl, ?_⟩) (by assumption) ?_
  rotate_left
  · intro w hSw; (try dsimp only at hSw); go_simp; (all_goals with_reducible rfl)
  simp only [Act.put, List.setIfInBounds_toArray, List.set_cons_zero, List.set_cons_succ]
  refine wpAnyH_take (i := 14) (oi := ⟨some 18, _, _, _, _, _⟩) (v := ?_) rfl (by kernel_rfl) (by kernel_rfl) (by kernel_rfl) (fun _ _ _ h => h) (Or.inl ⟨by rfl, ?_⟩) (by assumption) ?_
  rotate_left
  · intro w hSw; (try dsimp only at hSw); go_simp; (all_goals with_reducible rfl)
  simp only [Act.put, List.setIfInBounds_toArray, List.set_cons_zero, List.set_cons_succ]
  refine wpAnyH_take (i := 15) (oi := ⟨some 19, _, _, _, _, _⟩) (v := ?_) rfl (by kernel_rfl) (by kernel_rfl) (by kernel_rfl) (fun _ _ _ h => h) (Or.inl ⟨by rfl, ?_⟩) (by assumption) ?_
  rotate_left
  · intro w hSw; (try dsimp only at hSw); go_simp; (all_goals with_reducible rfl)
  simp only [Act.put, List.setIfInBounds_toArray, List.set_cons_zero, List.set_cons_succ]
  refine wpAnyH_take (i := 19) (oi := ⟨some 23, _, _, _, _, _⟩) (v := ?_) rfl (by kernel_rfl) (by kernel_rfl) (by kernel_rfl) (fun _ _ _ h => h) (Or.inl ⟨by rfl, ?_⟩) (by assumption) ?_
  rotate_left
  · intro w hSw; (try dsimp only at hSw); go_simp; (all_goals with_reducible rfl)
  simp only [Act.put, List.setIfInBounds_toArray, List.set_cons_zero, List.set_cons_succ]
  refine wpAnyH_take (i := 20) (oi := ⟨some 24, _, _, _, _, _⟩) (v := ?_) rfl (by kernel_rfl) (by kernel_rfl) (by kernel_rfl) (fun _ _ _ h => h) (Or.inl ⟨by rfl, ?_⟩) (by assumption) ?_
  rotate_left
  · intro w hSw; (try dsimp only at hSw); go_simp; (all_goals with_reducible rfl)
  simp only [Act.put, List.setIfInBounds_toArray, List.set_cons_zero, List.set_cons_succ]
  refine wpAnyH_ready (rs := [6]) (by kernel_rfl) (by simp) ?_
  refine AllReadyH.cons (o := ⟨some 10, _, _, _, _, _⟩) rfl (fun K hK => ?_) AllReadyH.nil
  go_simp
  refine (CA.out _).mono ?_; rintro e1 w1 ⟨rfl, k1⟩; have s2 : w1.cell? ⟨w.heap.size, 0, none⟩ = some (.string nm) ∧ w1.cell? ⟨w.heap.size, 1, none⟩ = some (.int .i64 (a : Int)) ∧ w1.cell? ⟨w.heap.size, 2, none⟩ = some (.int .i64 (b : Int)) ∧ w1.cell? ⟨w.heap.size, 3, none⟩ = some (.int .i64 (c : Int)) ∧ w1.cell? ⟨w.heap.size, 4, none⟩ = some (.bool z) ∧ w1.cell? ⟨w.heap.size, 5, none⟩ = some (.int .i64 (v : Int)) ∧ Kp w w1 := ⟨k1.cell s1.1, k1.cell s1.2.1, k1.cell s1.2.2.1, k1.cell s1.2.2.2.1, k1.cell s1.2.2.2.2.1, k1.cell s1.2.2.2.2.2.1, s1.2.2.2.2.2.2.trans k1⟩; clear k1
  go_wp2_with fail
  refine hK.out _ _ ?_ (fun hHeld => ?_)
  · (try dsimp only); (first | assumption | exact s5 | exact s4 | exact s3 | exact s2 | exact s1)
  clear hK K
  try simp only [Act.put, List.setIfInBounds_toArray, List.set_cons_zero, List.set_cons_succ]
  refine wpAnyH_take (i := 7) (oi := ⟨some 11, _, _, _, _, _⟩) (v := ?_) rfl (by kernel_rfl) (by kernel_rfl) (by kernel_rfl) (fun _ _ _ h => h) (Or.inl ⟨by rfl, ?_⟩) (by assumption) ?_
  rotate_left
  · intro w hSw; (try dsimp only at hSw); go_simp; (all_goals with_reducible rfl)
  simp only [Act.put, List.setIfInBounds_toArray, List.set_cons_zero, List.set_cons_succ]
  refine wpAnyH_take (i := 8) (oi := ⟨some 12, _, _, _, _, _⟩) (v := ?_) rfl (by kernel_rfl) (by kernel_rfl) (by kernel_rfl) (fun _ _ _ h => h) (Or.inl ⟨by rfl, ?_⟩) (by assumption) ?_
  rotate_left
  · intro w hSw; (try dsimp only at hSw); go_simp; (all_goals with_reducible rfl)
  simp only [Act.put, List.setIfInBounds_toArray, List.set_cons_zero, List.set_cons_succ]
  refine wpAnyH_ready (rs := [11]) (by kernel_rfl) (by simp) ?_
  refine AllReadyH.cons (o := ⟨some 15, _, _, _, _, _⟩) rfl (fun K hK => ?_) AllReadyH.nil
  go_simp
  refine (CB.out _).mono ?_; rintro e2 w2 ⟨rfl, k2⟩; have s3 : w2.cell? ⟨w.heap.size, 0, none⟩ = some (.string nm) ∧ w2.cell? ⟨w.heap.size, 1, none⟩ = some (.int .i64 (a : Int)) ∧ w2.cell? ⟨w.heap.size, 2, none⟩ = some (.int .i64 (b : Int)) ∧ w2.cell? ⟨w.heap.size, 3, none⟩ = some (.int .i64 (c : Int)) ∧ w2.cell? ⟨w.heap.size, 4, none⟩ = some (.bool z) ∧ w2.cell? ⟨w.heap.size, 5, none⟩ = some (.int .i64 (v : Int)) ∧ Kp w w2 := ⟨k2.cell s2.1, k2.cell s2.2.1, k2.cell s2.2.2.1, k2.cell s2.2.2.2.1, k2.cell s2.2.2.2.2.1, k2.cell s2.2.2.2.2.2.1, s2.2.2.2.2.2.2.trans k2⟩; clear k2
  go_wp2_with fail
  refine hK.out _ _ ?_ (fun hHeld => ?_)
  · (try dsimp only); (first | assumption | exact s5 | exact s4 | exact s3 | exact s2 | exact s1)
  clear hK K
  try simp only [Act.put, List.setIfInBounds_toArray, List.set_cons_zero, List.set_cons_succ]
  refine wpAnyH_take (i := 12) (oi := ⟨some 16, _, _, _, _, _⟩) (v := ?_) rfl (by kernel_rfl) (by kernel_rfl) (by kernel_rfl) (fun _ _ _ h => h) (Or.inl ⟨by rfl, ?_⟩) (by assumption) ?_
  rotate_left
  · intro w hSw; (try dsimp only at hSw); go_simp; (all_goals with_reducible rfl)
  simp only [Act.put, List.setIfInBounds_toArray, List.set_cons_zero, List.set_cons_succ]
  refine wpAnyH_take (i := 13) (oi := ⟨some 17, _, _, _, _, _⟩) (v := ?_) rfl (by kernel_rfl) (by kernel_rfl) (by kernel_rfl) (fun _ _ _ h => h) (Or.inl ⟨by rfl, ?_⟩) (by assumption) ?_
  rotate_left
  · intro w hSw; (try dsimp only at hSw); go_simp; (all_goals with_reducible rfl)
  simp only [Act.put, List.setIfInBounds_toArray, List.set_cons_zero, List.set_cons_succ]
  refine wpAnyH_ready (rs := [16]) (by kernel_rfl) (by simp) ?_
  refine AllReadyH.cons (o := ⟨some 20, _, _, _, _, _⟩) rfl (fun K hK => ?_) AllReadyH.nil
  go_simp
  refine (CC.out _).mono ?_; rintro e3 w3 ⟨rfl, k3⟩; have s4 : w3.cell? ⟨w.heap.size, 0, none⟩ = some (.string nm) ∧ w3.cell? ⟨w.heap.size, 1, none⟩ = some (.int .i64 (a : Int)) ∧ w3.cell? ⟨w.heap.size, 2, none⟩ = some (.int .i64 (b : Int)) ∧ w3.cell? ⟨w.heap.size, 3, none⟩ = some (.int .i64 (c : Int)) ∧ w3.cell? ⟨w.heap.size, 4, none⟩ = some (.bool z) ∧ w3.cell? ⟨w.heap.size, 5, none⟩ = some (.int .i64 (v : Int)) ∧ Kp w w3 := ⟨k3.cell s3.1, k3.cell s3.2.1, k3.cell s3.2.2.1, k3.cell s3.2.2.2.1, k3.cell s3.2.2.2.2.1, k3.cell s3.2.2.2.2.2.1, s3.2.2.2.2.2.2.trans k3⟩; clear k3
  go_wp2_with fail
  refine hK.out _ _ ?_ (fun hHeld => ?_)
  · (try dsimp only); (first | assumption | exact s5 | exact s4 | exact s3 | exact s2 | exact s1)
  clear hK K
  try simp only [Act.put, List.setIfInBounds_toArray, List.set_cons_zero, List.set_cons_succ]
  refine wpAnyH_take (i := 17) (oi := ⟨some 21, _, _, _, _, _⟩) (v := ?_) rfl (by kernel_rfl) (by kernel_rfl) (by kernel_rfl) (fun _ _ _ h => h) (Or.inl ⟨by rfl, ?_⟩) (by assumption) ?_
  rotate_left
  · intro w hSw; (try dsimp only at hSw); go_simp; (all_goals with_reducible rfl)
  simp only [Act.put, List.setIfInBounds_toArray, List.set_cons_zero, List.set_cons_succ]
  refine wpAnyH_take (i := 18) (oi := ⟨some 22, _, _, _, _, _⟩) (v := ?_) rfl (by kernel_rfl) (by kernel_rfl) (by kernel_rfl) (fun _ _ _ h => h) (Or.inl ⟨by rfl, ?_⟩) (by assumption) ?_
  rotate_left
  · intro w hSw; (try dsimp only at hSw); go_simp; (all_goals with_reducible rfl)
  simp only [Act.put, List.setIfInBounds_toArray, List.set_cons_zero, List.set_cons_succ]
  refine wpAnyH_ready (rs := [21]) (by kernel_rfl) (by simp) ?_
  refine AllReadyH.cons (o := ⟨some 25, _, _, _, _, _⟩) rfl (fun K hK => ?_) AllReadyH.nil
  go_simp
  refine (CD.out _).mono ?_; rintro e4 w4 ⟨rfl, k4⟩; have s5 : w4.cell? ⟨w.heap.size, 0, none⟩ = some (.string nm) ∧ w4.cell? ⟨w.heap.size, 1, none⟩ = some (.int .i64 (a : Int)) ∧ w4.cell? ⟨w.heap.size, 2, none⟩ = some (.int .i64 (b : Int)) ∧ w4.cell? ⟨w.heap.size, 3, none⟩ = some (.int .i64 (c : Int)) ∧ w4.cell? ⟨w.heap.size, 4, none⟩ = some (.bool z) ∧ w4.cell? ⟨w.heap.size, 5, none⟩ = some (.int .i64 (v : Int)) ∧ Kp w w4 := ⟨k4.cell s4.1, k4.cell s4.2.1, k4.cell s4.2.2.1, k4.cell s4.2.2.2.1, k4.cell s4.2.2.2.2.1, k4.cell s4.2.2.2.2.2.1, s4.2.2.2.2.2.2.trans k4⟩; clear k4
  go_wp2_with fail
  refine hK.out _ _ ?_ (fun hHeld => ?_)
  · (try dsimp only); (first | assumption | exact s5 | exact s4 | exact s3 | exact s2 | exact s1)
  clear hK K
  try simp only [Act.put, List.setIfInBounds_toArray, List.set_cons_zero, List.set_cons_succ]
  refine wpAnyH_take (i := 22) (oi := ⟨some 26, _, _, _, _, _⟩) (v := ?_) rfl (by kernel_rfl) (by kernel_rfl) (by kernel_rfl) (fun _ _ _ h => h) (Or.inl ⟨by rfl, ?_⟩) (by assumption) ?_
  rotate_left
  · intro w hSw; (try dsimp only at hSw); go_simp; (all_goals with_reducible rfl)
  simp only [Act.put, List.setIfInBounds_toArray, List.set_cons_zero, List.set_cons_succ]
  refine wpAnyH_take (i := 23) (oi := ⟨some 3, _, _, _, _, _⟩) (v := ?_) rfl (by kernel_rfl) (by kernel_rfl) (by kernel_rfl) (fun _ _ _ h => h) (Or.inl ⟨by rfl, ?_⟩) (by assumption) ?_
  rotate_left
  · intro w hSw; (try dsimp only at hSw); go_simp; (all_goals with_reducible rfl)
  simp only [Act.put, List.setIfInBounds_toArray, List.set_cons_zero, List.set_cons_succ]
  refine wpAnyH_done (by kernel_rfl) ?_ _
  obtain ⟨c0, c1, c2, c3, c4, c5, K5⟩ := s5
  cases z
  · go_wp2_with fail
    go_ret
    exact ⟨ret_str (by have h := HR.out; rw [if_neg (by decide)] at h; rw [← h]; apply ByteArray.ext; simp [ByteArray.data_append]), K5⟩
  · go_wp2_with fail
    go_ret
    exact ⟨ret_str (by have h := HR.out; rw [if_pos trivial] at h; exact h), K5⟩

set_option maxRecDepth 100000 in
set_option maxHeartbeats 8000000 in
theorem bfTerrain_any (nm : ByteArray) (A : Option Addr) (n cc : Nat) (l : List Int) (s : Int) (h : Nat) (z : Bool) (w : World) (hr : RdI w (.slice A n cc) l) (hm : TerSm ⟨nm, l, s, h, z⟩ n) (hn : n ≤ 100) :
    Calls Tryz.prog 57 #[tv nm A n cc s h z] w fun e w' => e = .returned (.string (txt (terTx ⟨nm, l, s, h, z⟩))) ∧ Kp w w' := by
  obtain ⟨m1, m2, m3, m4, m5⟩ := hm
  simp only at m1 m2 m3 m4 m5
  have hh : h < 100 := by omega
  have CA := Lib.hid (fun w => l1Int_any s w (by omega) (by omega))
  have CB := Lib.hid (fun w => l1Num_any h w (by omega))
  obtain ⟨sa, hsa⟩ : ∃ y, txt (Lib.itoa s) = y := ⟨_, rfl⟩
  have zsa : sa.size ≤ 3 := by rw [← hsa, txt_size]; exact itoa_len2 m4.1 m4.2
  rw [hsa] at CA
  obtain ⟨sb, hsb⟩ : ∃ y, decT h = y := ⟨_, rfl⟩
  have zsb : sb.size ≤ 2 := by rw [← hsb, decT_txt, txt_size]; exact dec_len (by omega)
  rw [hsb] at CB
  obtain ⟨q1, hq1⟩ : ∃ y, (ByteArray.mk #[116, 101, 114, 114, 97, 105, 110, 32]) ++ nm = y := ⟨_, rfl⟩
  have zq1 : q1.size ≤ 16 := by rw [← hq1, ByteArray.size_append]; have : (ByteArray.mk #[116, 101, 114, 114, 97, 105, 110, 32]).size = 8 := rfl; omega
  have yq1 : ¬ 9223372036854775807 < 8 + nm.size := by omega
  obtain ⟨q2, hq2⟩ : ∃ y, q1 ++ (ByteArray.mk #[32, 115, 104, 105, 102, 116, 32]) = y := ⟨_, rfl⟩
  have zq2 : q2.size ≤ 23 := by rw [← hq2, ByteArray.size_append]; have : (ByteArray.mk #[32, 115, 104, 105, 102, 116, 32]).size = 7 := rfl; omega
  have yq2 : ¬ 9223372036854775807 < q1.size + 7 := by omega
  obtain ⟨q3, hq3⟩ : ∃ y, q2 ++ sa = y := ⟨_, rfl⟩
  have zq3 : q3.size ≤ 26 := by rw [← hq3, ByteArray.size_append]; omega
  have yq3 : ¬ 9223372036854775807 < q2.size + sa.size := by omega
  obtain ⟨q4, hq4⟩ : ∃ y, q3 ++ (ByteArray.mk #[32, 104, 101, 105, 103, 104, 116, 32]) = y := ⟨_, rfl⟩
  have zq4 : q4.size ≤ 34 := by rw [← hq4, ByteArray.size_append]; have : (ByteArray.mk #[32, 104, 101, 105, 103, 104, 116, 32]).size = 8 := rfl; omega
  have yq4 : ¬ 9223372036854775807 < q3.size + 8 := by omega
  obtain ⟨q5, hq5⟩ : ∃ y, q4 ++ sb = y := ⟨_, rfl⟩
  have zq5 : q5.size ≤ 36 := by rw [← hq5, ByteArray.size_append]; omega
  have yq5 : ¬ 9223372036854775807 < q4.size + sb.size := by omega
  obtain ⟨q6, hq6⟩ : ∃ y, q5 ++ (ByteArray.mk #[32, 99, 111, 115, 116]) = y := ⟨_, rfl⟩
  have zq6 : q6.size ≤ 41 := by rw [← hq6, ByteArray.size_append]; have : (ByteArray.mk #[32, 99, 111, 115, 116]).size = 5 := rfl; omega
  have yq6 : ¬ 9223372036854775807 < q5.size + 5 := by omega
  obtain ⟨HD, hHD⟩ : ∃ y, y = [116, 101, 114, 114, 97, 105, 110, 32] ++ nm.data.toList ++ [32, 115, 104, 105, 102, 116, 32] ++ Lib.itoa s ++ [32, 104, 101, 105, 103, 104, 116, 32] ++ Lib.decDigits h ++ [32, 99, 111, 115, 116] := ⟨_, rfl⟩
  have HR : Hid (q6 = txt HD) := Lib.hid (by
    rw [hHD, ← hq6, ← hq5, ← hq4, ← hq3, ← hq2, ← hq1, ← hsa, ← hsb, decT_txt, ← txt_of nm]
    simp [txt] <;> (apply ByteArray.ext; simp [ByteArray.data_append]))
  have HE : Hid (terTx ⟨nm, l, s, h, z⟩ = HD ++ costsT l ++ (if z then [32, 98, 108, 111, 99, 107, 115] else [])) := Lib.hid (by rw [hHD]; unfold terTx; simp only [Int.toNat_natCast])
  have HDL : Hid (HD.length ≤ 41) := Lib.hid (by have := congrArg ByteArray.size HR.out; rw [txt_size] at this; omega)
  have HL := Lib.hid m2
  have HC := Lib.hid m3
  have HCL := Lib.hid (fun (q : Nat) => costsT_len (l.take q) (fun x hx => (m3 x (List.mem_of_mem_take hx)).2))
  have s1 : (w.alloc (.cells #[.string nm, .slice A n cc, .int .i64 s, .int .i64 (h : Int), .bool z] 85)).drew.cell? ⟨w.heap.size, 0, none⟩ = some (.string nm) ∧ (w.alloc (.cells #[.string nm, .slice A n cc, .int .i64 s, .int .i64 (h : Int), .bool z] 85)).drew.cell? ⟨w.heap.size, 1, none⟩ = some (.slice A n cc) ∧ (w.alloc (.cells #[.string nm, .slice A n cc, .int .i64 s, .int .i64 (h : Int), .bool z] 85)).drew.cell? ⟨w.heap.size, 2, none⟩ = some (.int .i64 s) ∧ (w.alloc (.cells #[.string nm, .slice A n cc, .int .i64 s, .int .i64 (h : Int), .bool z] 85)).drew.cell? ⟨w.heap.size, 3, none⟩ = some (.int .i64 (h : Int)) ∧ (w.alloc (.cells #[.string nm, .slice A n cc, .int .i64 s, .int .i64 (h : Int), .bool z] 85)).drew.cell? ⟨w.heap.size, 4, none⟩ = some (.bool z) ∧ Kp w (w.alloc (.cells #[.string nm, .slice A n cc, .int .i64 s, .int .i64 (h : Int), .bool z] 85)).drew := ⟨by simp [go_sem], by simp [go_sem], by simp [go_sem], by simp [go_sem], by simp [go_sem], ((Kp.refl w).alloc _).drew⟩
  have HRD := Lib.hid hr
  clear hsa hsb hHD m1 m2 m3 m4 m5 hr
  go_enter Tryz.func57, Tryz.ntmps57
  go_wp2_with fail
  refine wp_region_held_drew (S := (fun w' => w'.cell? ⟨w.heap.size, 0, none⟩ = some (.string nm) ∧ w'.cell? ⟨w.heap.size, 1, none⟩ = some (.slice A n cc) ∧ w'.cell? ⟨w.heap.size, 2, none⟩ = some (.int .i64 s) ∧ w'.cell? ⟨w.heap.size, 3, none⟩ = some (.int .i64 (h : Int)) ∧ w'.cell? ⟨w.heap.size, 4, none⟩ = some (.bool z) ∧ Kp w w')) (by kernel_rfl) ?_ (fun hHeld => ?_)
  · exact s1
  refine wpAnyH_take (i := 0) (oi := ⟨some 6, _, _, _, _, _⟩) (v := ?_) rfl (by kernel_rfl) (by kernel_rfl) (by kernel_rfl) (fun _ _ _ h => h) (Or.inl ⟨by rfl, ?_⟩) (by assumption) ?_
  rotate_left
  · intro w hSw; (try dsimp only at hSw); go_simp; (all_goals with_reducible rfl)
  simp only [Act.put, List.setIfInBounds_toArray, List.set_cons_zero, List.set_cons_succ]
  refine wpAnyH_take (i := 1) (oi := ⟨some 7, _, _, _, _, _⟩) (v := ?_) rfl (by kernel_rfl) (by kernel_rfl) (by kernel_rfl) (fun _ _ _ h => h) (Or.inl ⟨by rfl, ?_⟩) (by assumption) ?_
  rotate_left
  · intro w hSw; (try dsimp only at hSw); go_simp; (all_goals with_reducible rfl)
  simp only [Act.put, List.setIfInBounds_toArray, List.set_cons_zero, List.set_cons_succ]
  refine wpAnyH_take (i := 2) (oi := ⟨some 8, _, _, _, _, _⟩) (v := ?_) rfl (by kernel_rfl) (by kernel_rfl) (by kernel_rfl) (fun _ _ _ h => h) (Or.inl ⟨by rfl, ?_⟩) (by assumption) ?_
  rotate_left
  · intro w hSw; (try dsimp only at hSw); go_simp; (all_goals with_reducible rfl)
  simp only [Act.put, List.setIfInBounds_toArray, List.set_cons_zero, List.set_cons_succ]
  refine wpAnyH_take (i := 3) (oi := ⟨some 9, _, _, _, _, _⟩) (v := ?_) rfl (by kernel_rfl) (by kernel_rfl) (by kernel_rfl) (fun _ _ _ h => h) (Or.inl ⟨by rfl, ?_⟩) (by assumption) ?_
  rotate_left
  · intro w hSw; (try dsimp only at hSw); go_simp; (all_goals with_reducible rfl)
  simp only [Act.put, List.setIfInBounds_toArray, List.set_cons_zero, List.set_cons_succ]
  refine wpAnyH_take (i := 4) (oi := ⟨some 10, _, _, _, _, _⟩) (v := ?_) rfl (by kernel_rfl) (by kernel_rfl) (by kernel_rfl) (fun _ _ _ h => h) (Or.inl ⟨by rfl, ?_⟩) (by assumption) ?_
  rotate_left
  · intro w hSw; (try dsimp only at hSw); go_simp; (all_goals with_reducible rfl)
  simp only [Act.put, List.setIfInBounds_toArray, List.set_cons_zero, List.set_cons_succ]
  refine wpAnyH_take (i := 5) (oi := ⟨some 11, _, _, _, _, _⟩) (v := ?_) rfl (by kernel_rfl) (by kernel_rfl) (by kernel_rfl) (fun _ _ _ h => h) (Or.inl ⟨by rfl, ?_⟩) (by assumption) ?_
  rotate_left
  · intro w hSw; (try dsimp only at hSw); go_simp; (all_goals with_reducible rfl)
  simp only [Act.put, List.setIfInBounds_toArray, List.set_cons_zero, List.set_cons_succ]
  refine wpAnyH_take (i := 9) (oi := ⟨some 15, _, _, _, _, _⟩) (v := ?_) rfl (by kernel_rfl) (by kernel_rfl) (by kernel_rfl) (fun _ _ _ h => h) (Or.inl ⟨by rfl, ?_⟩) (by assumption) ?_
  rotate_left
  · intro w hSw; (try dsimp only at hSw); go_simp; (all_goals with_reducible rfl)
  simp only [Act.put, List.setIfInBounds_toArray, List.set_cons_zero, List.set_cons_succ]
  refine wpAnyH_take (i := 10) (oi := ⟨some 16, _, _, _, _, _⟩) (v := ?_) rfl (by kernel_rfl) (by kernel_rfl) (by kernel_rfl) (fun _ _ _ h => h) (Or.inl ⟨by rfl, ?_⟩) (by assumption) ?_
  rotate_left
  · intro w hSw; (try dsimp only at hSw); go_simp; (all_goals with_reducible rfl)
  simp only [Act.put, List.setIfInBounds_toArray, List.set_cons_zero, List.set_cons_succ]
  refine wpAnyH_ready (rs := [6]) (by kernel_rfl) (by simp) ?_
  refine AllReadyH.cons (o := ⟨some 12, _, _, _, _, _⟩) rfl (fun K hK => ?_) AllReadyH.nil
  go_simp
  refine (CA.out _).mono ?_; rintro e1 w1 ⟨rfl, k1⟩; have s2 : w1.cell? ⟨w.heap.size, 0, none⟩ = some (.string nm) ∧ w1.cell? ⟨w.heap.size, 1, none⟩ = some (.slice A n cc) ∧ w1.cell? ⟨w.heap.size, 2, none⟩ = some (.int .i64 s) ∧ w1.cell? ⟨w.heap.size, 3, none⟩ = some (.int .i64 (h : Int)) ∧ w1.cell? ⟨w.heap.size, 4, none⟩ = some (.bool z) ∧ Kp w w1 := ⟨k1.cell s1.1, k1.cell s1.2.1, k1.cell s1.2.2.1, k1.cell s1.2.2.2.1, k1.cell s1.2.2.2.2.1, s1.2.2.2.2.2.trans k1⟩; clear k1
  go_wp2_with fail
  refine hK.out _ _ ?_ (fun hHeld => ?_)
  · (try dsimp only); (first | assumption | exact s3 | exact s2 | exact s1)
  clear hK K
  try simp only [Act.put, List.setIfInBounds_toArray, List.set_cons_zero, List.set_cons_succ]
  refine wpAnyH_take (i := 7) (oi := ⟨some 13, _, _, _, _, _⟩) (v := ?_) rfl (by kernel_rfl) (by kernel_rfl) (by kernel_rfl) (fun _ _ _ h => h) (Or.inl ⟨by rfl, ?_⟩) (by assumption) ?_
  rotate_left
  · intro w hSw; (try dsimp only at hSw); go_simp; (all_goals with_reducible rfl)
  simp only [Act.put, List.setIfInBounds_toArray, List.set_cons_zero, List.set_cons_succ]
  refine wpAnyH_take (i := 8) (oi := ⟨some 14, _, _, _, _, _⟩) (v := ?_) rfl (by kernel_rfl) (by kernel_rfl) (by kernel_rfl) (fun _ _ _ h => h) (Or.inl ⟨by rfl, ?_⟩) (by assumption) ?_
  rotate_left
  · intro w hSw; (try dsimp only at hSw); go_simp; (all_goals with_reducible rfl)
  simp only [Act.put, List.setIfInBounds_toArray, List.set_cons_zero, List.set_cons_succ]
  refine wpAnyH_ready (rs := [11]) (by kernel_rfl) (by simp) ?_
  refine AllReadyH.cons (o := ⟨some 17, _, _, _, _, _⟩) rfl (fun K hK => ?_) AllReadyH.nil
  go_simp
  refine (CB.out _).mono ?_; rintro e2 w2 ⟨rfl, k2⟩; have s3 : w2.cell? ⟨w.heap.size, 0, none⟩ = some (.string nm) ∧ w2.cell? ⟨w.heap.size, 1, none⟩ = some (.slice A n cc) ∧ w2.cell? ⟨w.heap.size, 2, none⟩ = some (.int .i64 s) ∧ w2.cell? ⟨w.heap.size, 3, none⟩ = some (.int .i64 (h : Int)) ∧ w2.cell? ⟨w.heap.size, 4, none⟩ = some (.bool z) ∧ Kp w w2 := ⟨k2.cell s2.1, k2.cell s2.2.1, k2.cell s2.2.2.1, k2.cell s2.2.2.2.1, k2.cell s2.2.2.2.2.1, s2.2.2.2.2.2.trans k2⟩; clear k2
  go_wp2_with fail
  refine hK.out _ _ ?_ (fun hHeld => ?_)
  · (try dsimp only); (first | assumption | exact s3 | exact s2 | exact s1)
  clear hK K
  try simp only [Act.put, List.setIfInBounds_toArray, List.set_cons_zero, List.set_cons_succ]
  refine wpAnyH_take (i := 12) (oi := ⟨some 18, _, _, _, _, _⟩) (v := ?_) rfl (by kernel_rfl) (by kernel_rfl) (by kernel_rfl) (fun _ _ _ h => h) (Or.inl ⟨by rfl, ?_⟩) (by assumption) ?_
  rotate_left
  · intro w hSw; (try dsimp only at hSw); go_simp; (all_goals with_reducible rfl)
  simp only [Act.put, List.setIfInBounds_toArray, List.set_cons_zero, List.set_cons_succ]
  refine wpAnyH_take (i := 13) (oi := ⟨some 19, _, _, _, _, _⟩) (v := ?_) rfl (by kernel_rfl) (by kernel_rfl) (by kernel_rfl) (fun _ _ _ h => h) (Or.inl ⟨by rfl, ?_⟩) (by assumption) ?_
  rotate_left
  · intro w hSw; (try dsimp only at hSw); go_simp; (all_goals with_reducible rfl)
  simp only [Act.put, List.setIfInBounds_toArray, List.set_cons_zero, List.set_cons_succ]
  refine wpAnyH_take (i := 14) (oi := ⟨some 3, _, _, _, _, _⟩) (v := ?_) rfl (by kernel_rfl) (by kernel_rfl) (by kernel_rfl) (fun _ _ _ h => h) (Or.inl ⟨by rfl, ?_⟩) (by assumption) ?_
  rotate_left
  · intro w hSw; (try dsimp only at hSw); go_simp; (all_goals with_reducible rfl)
  simp only [Act.put, List.setIfInBounds_toArray, List.set_cons_zero, List.set_cons_succ]
  refine wpAnyH_done (by kernel_rfl) ?_ _
  obtain ⟨c0, c1, c2, c3, c4, K3⟩ := s3
  have Z0 : Hid (q6 = txt (HD ++ costsT (l.take 0))) := Lib.hid (by rw [HR.out]; simp [costsT])
  go_wp2_with fail
  go_loopw [3, 5, 23] (fun sv _ i wr => ∃ (q : Nat) (y : ByteArray), q ≤ n ∧ i = .int .i64 q ∧ sv = .string y ∧ Hid (y = txt (HD ++ costsT (l.take q))) ∧ wr.cell? ⟨w.heap.size, 4, none⟩ = some (.bool z) ∧ Kp w wr) (fun _ _ i _ => n - (intOf i).toNat)
  case atStart => exact ⟨0, _, by omega, rfl, rfl, Z0, c4, K3⟩
  case round =>
    clear Z0 HR c0 c1 c2 c3 c4 K3
    obtain ⟨q, y, hq, rfl, rfl, HY, d4, kr⟩ := hrel
    have hyz : y.size ≤ 41 + 300 := by
      have h1 := congrArg ByteArray.size HY.out
      have h2 := HCL.out q
      have h3 := HDL.out
      rw [txt_size, List.length_append] at h1
      rw [List.length_take] at h2
      omega
    by_cases hlt : q < n
    · have hlt' : (q : Int) < n := by omega
      obtain ⟨x, hx⟩ : ∃ x, l[q]? = some x := ⟨l[q]'(by have := HL.out; omega), List.getElem?_eq_getElem _⟩
      obtain ⟨A', c', e', hA⟩ := HRD.out
      have hA := hA (by have := HL.out; omega)
      obtain ⟨g, off, eA, hc⟩ := hA
      injection e' with e1 e2 e3
      subst e1 eA
      have a0 := kr.cell (hc q x hx)
      have hx1 := HC.out x (List.mem_of_getElem? hx)
      obtain ⟨k, rfl⟩ : ∃ k : Nat, x = k := ⟨x.toNat, by omega⟩
      have CX := Lib.hid (fun w => l1Num_any k w (by omega))
      obtain ⟨sx, hsx⟩ : ∃ y, decT k = y := ⟨_, rfl⟩
      have zsx : sx.size ≤ 2 := by rw [← hsx, decT_txt, txt_size]; exact dec_len (by omega)
      rw [hsx] at CX
      obtain ⟨p1, hp1⟩ : ∃ y, ByteArray.mk #[32] ++ sx = y := ⟨_, rfl⟩
      have zp1 : p1.size ≤ 3 := by rw [← hp1, ByteArray.size_append]; have : (ByteArray.mk #[32]).size = 1 := rfl; omega
      have yp1 : ¬ 9223372036854775807 < 1 + sx.size := by omega
      have yp2 : ¬ 9223372036854775807 < y.size + p1.size := by omega
      have HN2 : Hid (y ++ p1 = txt (HD ++ costsT (l.take (q + 1)))) := Lib.hid (by
        rw [HY.out, ← hp1, ← hsx, decT_txt, show ByteArray.mk #[32] = txt [32] from rfl, txt_app, txt_app, List.take_add_one, hx]
        simp [costsT])
      clear hx hc hx1 hsx e2 e3 HY
      go_wp2_with fail
      refine (CX.out _).mono ?_
      rintro e1 w1 ⟨rfl, k1⟩
      have d5 := k1.cell d4
      have kr1 := kr.trans k1
      clear k1 d4 kr
      go_wp2_with fail
      go_roundw
      case rel => exact ⟨q + 1, _, by omega, by go_num, rfl, HN2, d5, kr1⟩
      case measure => simp [intOf]; omega
    · obtain rfl : q = n := by omega
      have HYE : Hid (y = txt (HD ++ costsT l)) := Lib.hid (by
        have h1 := HY.out
        rwa [List.take_of_length_le (by rw [HL.out]; omega)] at h1)
      have y9 : ¬ 9223372036854775807 < y.size + 7 := by omega
      clear HY
      cases z
      · go_wp2_with fail
        go_ret
        exact ⟨ret_str (by rw [HE.out, HYE.out]; simp), kr⟩
      · go_wp2_with fail
        go_ret
        exact ⟨ret_str (by rw [HE.out, HYE.out, show ByteArray.mk #[32, 98, 108, 111, 99, 107, 115] = txt [32, 98, 108, 111, 99, 107, 115] from rfl, txt_app]; simp), kr⟩

end Go.Proofs.YtmolpkjdjkhnpabGreatDoor
