/-
  Texts of this seat in one module: RulO, BrdL, MarkN, MarkI, Mk, BrdW, BrdX, TabS, MkT, MkK, MkB, MkH, MkI, MkJ, PutI, MirI.
-/
import Derived.Deep.Slices
import Derived.Laws.BytesArg
import Derived.Test.YtmolpkjdjkhnpaaGreatDoorQa
import Derived.Test.YtmolpkjdjkhnpaaGreatDoorQb
import Derived.Test.YtmolpkjdjkhnpaaGreatDoorQc

/-
  An argument of type Rules reads as two lists and five numbers.
-/
namespace Go.Proofs.YtmolpkjdjkhnpaaGreatDoor
open Go.ChangeShapes Go.WideShapes Go.ChangeAt Go.RowKit Go.Joins Go.Deep

theorem RulIn.keep {w w' : World} {At Ak : Option Addr} {nt nk : Nat} {l : List Ter} {m : List Knd} (h : RulIn w At Ak nt nk l m) (k : Kp w w') : RulIn w' At Ak nt nk l m :=
  ⟨h.rt.keep k, h.rk.keep k, h.bt, h.bk, h.bc, h.bn⟩

theorem cellsTer : Tryz.prog.cellsOf 83 = 5 := by kernel_rfl
theorem cellsKnd : Tryz.prog.cellsOf 85 = 6 := by kernel_rfl
theorem cellsRul : Tryz.prog.cellsOf 25 = 7 := by kernel_rfl

set_option maxRecDepth 100000 in
theorem rdT_of_trod {H : Type} {enc : TypeId × Value → H} {W : World} {v : Value} {n : Nat} {y : DataW H × List MemPlace}
    (hf : DataW.trod enc Tryz.prog W 0 (fun _ => true) true n 22 [v] = some y) : ∃ (A : Option Addr) (n c : Nat) (l : List Ter), v = .slice A n c ∧ RdT W A n l ∧ n ≤ 9223372036854775807 ∧ (∀ x ∈ l, x.cost.length ≤ 9223372036854775807 ∧ x.name.size ≤ 9223372036854775807) ∧ ∀ x ∈ l, ∀ z ∈ x.cost, -9223372036854775808 ≤ z ∧ z ≤ 9223372036854775807 := by
  obtain ⟨A, n, c, l, rfl, hl, hm, hr⟩ := rd_structs (α := Ter) (fun g o x => TerAt W g o x ∧ (x.cost.length ≤ 9223372036854775807 ∧ x.name.size ≤ 9223372036854775807) ∧ ∀ z ∈ x.cost, -9223372036854775808 ≤ z ∧ z ≤ 9223372036854775807) cellsTer Tryz.underlying22 hf (fun a fu cs x hcl hat hx => by
    obtain ⟨k, hk⟩ := fields_of_trod Tryz.underlying83 (by kernel_rfl) rfl hcl hx
    obtain ⟨c0, y0, q0, h0⟩ := hk 0 _ rfl
    obtain ⟨c1, y1, q1, h1⟩ := hk 1 _ rfl
    obtain ⟨c2, y2, q2, h2⟩ := hk 2 _ rfl
    obtain ⟨c3, y3, q3, h3⟩ := hk 3 _ rfl
    obtain ⟨c4, y4, q4, h4⟩ := hk 4 _ rfl
    obtain ⟨s, e0, _, ws⟩ := DataW.trod_string Tryz.underlying9 h0
    obtain ⟨lc, r1, r2, r3⟩ := rdB_of_trod h1
    obtain ⟨z2, e2, _, w2⟩ := DataW.trod_int Tryz.underlying3 h2
    obtain ⟨z3, e3, _, w3⟩ := DataW.trod_int Tryz.underlying3 h3
    obtain ⟨z4, e4, _⟩ := DataW.trod_bool Tryz.underlying4 h4
    simp only [List.cons.injEq, and_true] at e0 e2 e3 e4
    subst e0 e2 e3 e4
    have g0 := (hat 0 (by omega)).trans q0
    have g1 := (hat 1 (by omega)).trans q1
    have g2 := (hat 2 (by omega)).trans q2
    have g3 := (hat 3 (by omega)).trans q3
    have g4 := (hat 4 (by omega)).trans q4
    obtain ⟨b, off, spot⟩ := a
    have hspot : spot = none := by
      have := World.cell?_spot g0
      simpa [Addr.add] using this
    subst hspot
    rw [add_none'] at g0 g1 g2 g3 g4
    obtain ⟨A1, c1', rfl⟩ := r1.shape
    unfold maxLen at ws
    exact ⟨rfl, ⟨s, lc, z2, z3, z4⟩, ⟨A1, c1', ⟨g0, g1, g2, g3, g4⟩, r1⟩, ⟨r2, by simp only; omega⟩, r3⟩)
  have mem : ∀ x ∈ l, ∃ g o, TerAt W g o x ∧ (x.cost.length ≤ 9223372036854775807 ∧ x.name.size ≤ 9223372036854775807) ∧ ∀ z ∈ x.cost, -9223372036854775808 ≤ z ∧ z ≤ 9223372036854775807 := fun x hx => by
    obtain ⟨i, hi, rfl⟩ := List.mem_iff_getElem.1 hx
    obtain ⟨g, off, rfl, hc⟩ := hr (by omega)
    exact ⟨_, _, hc i _ (List.getElem?_eq_getElem hi)⟩
  unfold maxLen at hm
  refine ⟨A, n, c, l, rfl, ⟨hl, fun h0 => ?_⟩, by omega, fun x hx => ?_, fun x hx => ?_⟩
  · obtain ⟨g, off, e, hc⟩ := hr h0
    exact ⟨g, off, e, fun i x hx => (hc i x hx).1⟩
  · obtain ⟨_, _, _, h, _⟩ := mem x hx
    exact h
  · obtain ⟨_, _, _, _, h⟩ := mem x hx
    exact h

set_option maxRecDepth 100000 in
theorem rdK_of_trod {H : Type} {enc : TypeId × Value → H} {W : World} {v : Value} {n : Nat} {y : DataW H × List MemPlace}
    (hf : DataW.trod enc Tryz.prog W 0 (fun _ => true) true n 23 [v] = some y) : ∃ (A : Option Addr) (n c : Nat) (l : List Knd), v = .slice A n c ∧ RdK W A n l ∧ n ≤ 9223372036854775807 ∧ ∀ x ∈ l, x.name.size ≤ 9223372036854775807 := by
  obtain ⟨A, n, c, l, rfl, hl, hm, hr⟩ := rd_structs (α := Knd) (fun g o x => KndAt W g o x ∧ x.name.size ≤ 9223372036854775807) cellsKnd Tryz.underlying23 hf (fun a fu cs x hcl hat hx => by
    obtain ⟨k, hk⟩ := fields_of_trod Tryz.underlying85 (by kernel_rfl) rfl hcl hx
    obtain ⟨c0, y0, q0, h0⟩ := hk 0 _ rfl
    obtain ⟨c1, y1, q1, h1⟩ := hk 1 _ rfl
    obtain ⟨c2, y2, q2, h2⟩ := hk 2 _ rfl
    obtain ⟨c3, y3, q3, h3⟩ := hk 3 _ rfl
    obtain ⟨c4, y4, q4, h4⟩ := hk 4 _ rfl
    obtain ⟨c5, y5, q5, h5⟩ := hk 5 _ rfl
    obtain ⟨s, e0, _, ws⟩ := DataW.trod_string Tryz.underlying9 h0
    obtain ⟨z1, e1, _, w1⟩ := DataW.trod_int Tryz.underlying3 h1
    obtain ⟨z2, e2, _, w2⟩ := DataW.trod_int Tryz.underlying3 h2
    obtain ⟨z3, e3, _, w3⟩ := DataW.trod_int Tryz.underlying3 h3
    obtain ⟨z4, e4, _⟩ := DataW.trod_bool Tryz.underlying4 h4
    obtain ⟨z5, e5, _, w5⟩ := DataW.trod_int Tryz.underlying3 h5
    simp only [List.cons.injEq, and_true] at e0 e1 e2 e3 e4 e5
    subst e0 e1 e2 e3 e4 e5
    have g0 := (hat 0 (by omega)).trans q0
    have g1 := (hat 1 (by omega)).trans q1
    have g2 := (hat 2 (by omega)).trans q2
    have g3 := (hat 3 (by omega)).trans q3
    have g4 := (hat 4 (by omega)).trans q4
    have g5 := (hat 5 (by omega)).trans q5
    obtain ⟨b, off, spot⟩ := a
    have hspot : spot = none := by
      have := World.cell?_spot g0
      simpa [Addr.add] using this
    subst hspot
    rw [add_none'] at g0 g1 g2 g3 g4 g5
    unfold maxLen at ws
    exact ⟨rfl, ⟨s, z1, z2, z3, z4, z5⟩, ⟨g0, g1, g2, g3, g4, g5⟩, by simp only; omega⟩)
  unfold maxLen at hm
  refine ⟨A, n, c, l, rfl, ⟨hl, fun h0 => ?_⟩, by omega, fun x hx => ?_⟩
  · obtain ⟨g, off, e, hc⟩ := hr h0
    exact ⟨g, off, e, fun i x hx => (hc i x hx).1⟩
  · obtain ⟨i, hi, rfl⟩ := List.mem_iff_getElem.1 hx
    obtain ⟨g, off, rfl, hc⟩ := hr (by omega)
    exact (hc i _ (List.getElem?_eq_getElem hi)).2

theorem seven {α : Type} {l : List α} (h : l.length = 7) {a b c d e f g : α} (h0 : l[0]? = some a) (h1 : l[1]? = some b) (h2 : l[2]? = some c) (h3 : l[3]? = some d) (h4 : l[4]? = some e) (h5 : l[5]? = some f) (h6 : l[6]? = some g) : l = [a, b, c, d, e, f, g] := by
  match l, h with
  | [x0, x1, x2, x3, x4, x5, x6], _ => simp_all

set_option maxRecDepth 100000 in
/-- Seven cells that read as rules. -/
theorem rules_cells {H : Type} {enc : TypeId × Value → H} {W : World} {cs : List Value} {n : Nat} (hl : cs.length = 7)
    (hf : ∀ (j : Nat) (f : Field), (match Tryz.prog.underlying 25 with | some (.struct fs) => fs | _ => #[])[j]? = some f → ∃ c y, cs[j]? = some c ∧ DataW.trod enc Tryz.prog W 0 (fun _ => true) true n f.type [c] = some y) :
    ∃ (At Ak : Option Addr) (nt nk ct ck : Nat) (l : List Ter) (m : List Knd) (a b c d e : Int), cs = [.slice At nt ct, .slice Ak nk ck, .int .i64 a, .int .i64 b, .int .i64 c, .int .i64 d, .int .i64 e] ∧ RulIn W At Ak nt nk l m ∧ ∀ x ∈ l, ∀ z ∈ x.cost, -9223372036854775808 ≤ z ∧ z ≤ 9223372036854775807 := by
  rw [Tryz.underlying25] at hf
  obtain ⟨c0, y0, q0, h0⟩ := hf 0 _ rfl
  obtain ⟨c1, y1, q1, h1⟩ := hf 1 _ rfl
  obtain ⟨c2, y2, q2, h2⟩ := hf 2 _ rfl
  obtain ⟨c3, y3, q3, h3⟩ := hf 3 _ rfl
  obtain ⟨c4, y4, q4, h4⟩ := hf 4 _ rfl
  obtain ⟨c5, y5, q5, h5⟩ := hf 5 _ rfl
  obtain ⟨c6, y6, q6, h6⟩ := hf 6 _ rfl
  obtain rfl := seven hl q0 q1 q2 q3 q4 q5 q6
  obtain ⟨At, nt, ct, l, rfl, r1, r2, r3, r4⟩ := rdT_of_trod h0
  obtain ⟨Ak, nk, ck, m, rfl, s1, s2, s3⟩ := rdK_of_trod h1
  obtain ⟨a, e2, _, _⟩ := DataW.trod_int Tryz.underlying3 h2
  obtain ⟨b, e3, _, _⟩ := DataW.trod_int Tryz.underlying3 h3
  obtain ⟨c, e4, _, _⟩ := DataW.trod_int Tryz.underlying3 h4
  obtain ⟨d, e5, _, _⟩ := DataW.trod_int Tryz.underlying3 h5
  obtain ⟨e, e6, _, _⟩ := DataW.trod_int Tryz.underlying3 h6
  simp only [List.cons.injEq, and_true] at e2 e3 e4 e5 e6
  subst e2 e3 e4 e5 e6
  exact ⟨At, Ak, nt, nk, ct, ck, l, m, a, b, c, d, e, rfl, ⟨r1, s1, r2, s2, r3, s3⟩, r4⟩

set_option maxRecDepth 100000 in
/-- An argument of type Rules. -/
theorem open_rules {H : Type} {enc : TypeId × Value → H} {W : World} {base : Nat} {v : Value} {d : DataW H} {p : List MemPlace}
    (hv : Value.okWide Tryz.prog W .any base 25 v) (h : DataW.Trod enc Tryz.prog W 0 (fun _ => true) true 25 v d p) :
    ∃ (At Ak : Option Addr) (nt nk ct ck : Nat) (l : List Ter) (m : List Knd) (a b c d e : Int), v = rv (.slice At nt ct) (.slice Ak nk ck) a b c d e ∧ RulIn W At Ak nt nk l m ∧ ∀ x ∈ l, ∀ z ∈ x.cost, -9223372036854775808 ≤ z ∧ z ≤ 9223372036854775807 := by
  obtain ⟨cs, n, rfl, hl, hf⟩ := open_fields Tryz.underlying25 (by kernel_rfl) cellsRul rfl hv h
  obtain ⟨At, Ak, nt, nk, ct, ck, l, m, a, b, c, d, e, rfl, h1, h2⟩ := rules_cells (n := n) hl (by rw [Tryz.underlying25]; exact hf)
  exact ⟨At, Ak, nt, nk, ct, ck, l, m, a, b, c, d, e, rfl, h1, h2⟩

end Go.Proofs.YtmolpkjdjkhnpaaGreatDoor

/-
  The laws' functions on boards: sizes, copies in memory of their own, the comparison of two that hold the same; an argument of type Board. Nothing that was there is changed.
-/
namespace Go.Proofs.YtmolpkjdjkhnpaaGreatDoor
open Go.ChangeShapes Go.WideShapes Go.ChangeAt Go.RowKit Go.Joins Go.Deep

def mapSm (lt lr ld : List Int) : Prop := lt.length ≤ 1048576 ∧ lr.length ≤ 1048576 ∧ ld.length ≤ 1048576
theorem Reads.lists' {w : World} {t r d : Value} {lt lr ld : List Int} (h : Reads w t r d lt lr ld) (s : mapSm lt lr ld) : Lists w t r d lt lr ld :=
  ⟨h.rt, h.rr, h.rd, s.1, s.2.1, s.2.2, h.it, h.ir, h.id⟩
theorem Reads.keep {w w' : World} {t r d : Value} {lt lr ld : List Int} (h : Reads w t r d lt lr ld) (k : Kp w w') : Reads w' t r d lt lr ld :=
  ⟨h.rt.keep k, h.rr.keep k, h.rd.keep k, h.bt, h.br, h.bd, h.it, h.ir, h.id⟩

set_option maxHeartbeats 1000000 in
theorem szMap_gen (W H : Int) (At Ar Ad : Option Addr) (nt ct nr cr nd cd : Nat) (left : Int) (w : World) (h0 : 0 ≤ left) (hL : left ≤ 1048576) (h1 : nt ≤ 9223372036854775807) (h2 : nr ≤ 9223372036854775807) (h3 : nd ≤ 9223372036854775807) :
    Calls Tryz.prog 12 #[mp W H (.slice At nt ct) (.slice Ar nr cr) (.slice Ad nd cd), .int .i64 left] w (SzPost (nt ≤ 1048576 ∧ nr ≤ 1048576 ∧ nd ≤ 1048576) w) := by
  by_cases a1 : (nt : Int) ≤ left
  · by_cases a2 : (nr : Int) ≤ left - nt
    · by_cases a3 : (nd : Int) ≤ left - nt - nr
      · go_enter Tryz.func12, Tryz.ntmps12
        go_wp2_with fail
        refine (szIntS_yes _ _ _ _ _ (by omega) (by omega) (by omega)).mono ?_
        rintro e1 w1 ⟨rfl, rfl⟩
        go_wp2_with fail
        refine (szIntS_yes _ _ _ _ _ (by omega) (by omega) (by omega)).mono ?_
        rintro e1 w1 ⟨rfl, rfl⟩
        go_wp2_with fail
        refine (szIntS_yes _ _ _ _ _ (by omega) (by omega) (by omega)).mono ?_
        rintro e1 w1 ⟨rfl, rfl⟩
        go_wp2_with fail
        go_ret
        exact ⟨_, rfl, by omega, by omega, fun _ => ⟨by omega, by omega, by omega⟩, (Kp.refl _).alloc _⟩
      · go_enter Tryz.func12, Tryz.ntmps12
        go_wp2_with fail
        refine (szIntS_yes _ _ _ _ _ (by omega) (by omega) (by omega)).mono ?_
        rintro e1 w1 ⟨rfl, rfl⟩
        go_wp2_with fail
        refine (szIntS_yes _ _ _ _ _ (by omega) (by omega) (by omega)).mono ?_
        rintro e1 w1 ⟨rfl, rfl⟩
        go_wp2_with fail
        refine (szIntS_no _ _ _ _ _ (by omega) (by omega) (by omega) (by omega)).mono ?_
        rintro e1 w1 ⟨rfl, rfl⟩
        go_wp2_with fail
        go_ret
        exact ⟨_, rfl, by omega, by omega, fun h => absurd h (by omega), (Kp.refl _).alloc _⟩
    · go_enter Tryz.func12, Tryz.ntmps12
      go_wp2_with fail
      refine (szIntS_yes _ _ _ _ _ (by omega) (by omega) (by omega)).mono ?_
      rintro e1 w1 ⟨rfl, rfl⟩
      go_wp2_with fail
      refine (szIntS_no _ _ _ _ _ (by omega) (by omega) (by omega) (by omega)).mono ?_
      rintro e1 w1 ⟨rfl, rfl⟩
      go_wp2_with fail
      go_ret
      exact ⟨_, rfl, by omega, by omega, fun h => absurd h (by omega), (Kp.refl _).alloc _⟩
  · go_enter Tryz.func12, Tryz.ntmps12
    go_wp2_with fail
    refine (szIntS_no _ _ _ _ _ (by omega) (by omega) (by omega) (by omega)).mono ?_
    rintro e1 w1 ⟨rfl, rfl⟩
    go_wp2_with fail
    go_ret
    exact ⟨_, rfl, by omega, by omega, fun h => absurd h (by omega), (Kp.refl _).alloc _⟩

/-- What an argument's board is: rules and three lists, within Go's own bounds. -/
structure BrdIn (w : World) (At Ak : Option Addr) (nt nk : Nat) (l : List Ter) (m : List Knd) (x r y : Value) (lt lr ld : List Int) : Prop where
  R : RulIn w At Ak nt nk l m
  L : Reads w x r y lt lr ld
theorem BrdIn.keep {w w' : World} {At Ak : Option Addr} {nt nk : Nat} {l : List Ter} {m : List Knd} {x r y : Value} {lt lr ld : List Int} (h : BrdIn w At Ak nt nk l m x r y lt lr ld) (k : Kp w w') : BrdIn w' At Ak nt nk l m x r y lt lr ld :=
  ⟨h.R.keep k, h.L.keep k⟩
def brdSm (nt nk : Nat) (l : List Ter) (m : List Knd) (lt lr ld : List Int) : Prop := rulSm nt nk l m ∧ mapSm lt lr ld
theorem BrdIn.at {w : World} {At Ak : Option Addr} {nt nk : Nat} {l : List Ter} {m : List Knd} {x r y : Value} {lt lr ld : List Int} (h : BrdIn w At Ak nt nk l m x r y lt lr ld) (s : brdSm nt nk l m lt lr ld) : BrdAt w At Ak nt nk l m x r y lt lr ld :=
  ⟨h.R.at s.1, h.L.lists' s.2⟩

set_option maxRecDepth 100000 in
set_option maxHeartbeats 4000000 in
theorem szBoard_any (At Ak : Option Addr) (nt nk ct ck : Nat) (l : List Ter) (m : List Knd) (a b c d e W H : Int) (x r y : Value) (lt lr ld : List Int) (left : Int) (w : World) (h : BrdIn w At Ak nt nk l m x r y lt lr ld) (h0 : 0 ≤ left) (hL : left ≤ 1048576) :
    Calls Tryz.prog 4 #[bv (.slice At nt ct) (.slice Ak nk ck) a b c d e W H x r y, .int .i64 left] w (SzPost (brdSm nt nk l m lt lr ld) w) := by
  have KA : Kp w (w.alloc (.cells #[.slice At nt ct, .slice Ak nk ck, .int .i64 a, .int .i64 b, .int .i64 c, .int .i64 d, .int .i64 e, .int .i64 W, .int .i64 H, x, r, y] 30)) := (Kp.refl w).alloc _
  have s0 : (w.alloc (.cells #[.slice At nt ct, .slice Ak nk ck, .int .i64 a, .int .i64 b, .int .i64 c, .int .i64 d, .int .i64 e, .int .i64 W, .int .i64 H, x, r, y] 30)).cell? ⟨w.heap.size, 0, none⟩ = some (.slice At nt ct) ∧ (w.alloc (.cells #[.slice At nt ct, .slice Ak nk ck, .int .i64 a, .int .i64 b, .int .i64 c, .int .i64 d, .int .i64 e, .int .i64 W, .int .i64 H, x, r, y] 30)).cell? ⟨w.heap.size, 1, none⟩ = some (.slice Ak nk ck) ∧ (w.alloc (.cells #[.slice At nt ct, .slice Ak nk ck, .int .i64 a, .int .i64 b, .int .i64 c, .int .i64 d, .int .i64 e, .int .i64 W, .int .i64 H, x, r, y] 30)).cell? ⟨w.heap.size, 2, none⟩ = some (.int .i64 a) ∧ (w.alloc (.cells #[.slice At nt ct, .slice Ak nk ck, .int .i64 a, .int .i64 b, .int .i64 c, .int .i64 d, .int .i64 e, .int .i64 W, .int .i64 H, x, r, y] 30)).cell? ⟨w.heap.size, 3, none⟩ = some (.int .i64 b) ∧ (w.alloc (.cells #[.slice At nt ct, .slice Ak nk ck, .int .i64 a, .int .i64 b, .int .i64 c, .int .i64 d, .int .i64 e, .int .i64 W, .int .i64 H, x, r, y] 30)).cell? ⟨w.heap.size, 4, none⟩ = some (.int .i64 c) ∧ (w.alloc (.cells #[.slice At nt ct, .slice Ak nk ck, .int .i64 a, .int .i64 b, .int .i64 c, .int .i64 d, .int .i64 e, .int .i64 W, .int .i64 H, x, r, y] 30)).cell? ⟨w.heap.size, 5, none⟩ = some (.int .i64 d) ∧ (w.alloc (.cells #[.slice At nt ct, .slice Ak nk ck, .int .i64 a, .int .i64 b, .int .i64 c, .int .i64 d, .int .i64 e, .int .i64 W, .int .i64 H, x, r, y] 30)).cell? ⟨w.heap.size, 6, none⟩ = some (.int .i64 e) ∧ (w.alloc (.cells #[.slice At nt ct, .slice Ak nk ck, .int .i64 a, .int .i64 b, .int .i64 c, .int .i64 d, .int .i64 e, .int .i64 W, .int .i64 H, x, r, y] 30)).cell? ⟨w.heap.size, 7, none⟩ = some (.int .i64 W) ∧ (w.alloc (.cells #[.slice At nt ct, .slice Ak nk ck, .int .i64 a, .int .i64 b, .int .i64 c, .int .i64 d, .int .i64 e, .int .i64 W, .int .i64 H, x, r, y] 30)).cell? ⟨w.heap.size, 8, none⟩ = some (.int .i64 H) ∧ (w.alloc (.cells #[.slice At nt ct, .slice Ak nk ck, .int .i64 a, .int .i64 b, .int .i64 c, .int .i64 d, .int .i64 e, .int .i64 W, .int .i64 H, x, r, y] 30)).cell? ⟨w.heap.size, 9, none⟩ = some (x) ∧ (w.alloc (.cells #[.slice At nt ct, .slice Ak nk ck, .int .i64 a, .int .i64 b, .int .i64 c, .int .i64 d, .int .i64 e, .int .i64 W, .int .i64 H, x, r, y] 30)).cell? ⟨w.heap.size, 10, none⟩ = some (r) ∧ (w.alloc (.cells #[.slice At nt ct, .slice Ak nk ck, .int .i64 a, .int .i64 b, .int .i64 c, .int .i64 d, .int .i64 e, .int .i64 W, .int .i64 H, x, r, y] 30)).cell? ⟨w.heap.size, 11, none⟩ = some (y) := ⟨by simp [go_sem], by simp [go_sem], by simp [go_sem], by simp [go_sem], by simp [go_sem], by simp [go_sem], by simp [go_sem], by simp [go_sem], by simp [go_sem], by simp [go_sem], by simp [go_sem], by simp [go_sem]⟩
  have HR := Lib.hid (h.R.keep KA)
  have bt := h.L.bt
  have br := h.L.br
  have bd := h.L.bd
  have C2 : Hid (∀ (left : Int) (w : World), 0 ≤ left → left ≤ 1048576 → Calls Tryz.prog 12 #[mp W H x r y, .int .i64 left] w (SzPost (mapSm lt lr ld) w)) := Lib.hid fun left w h0 h1 => by
    obtain ⟨A1, c1, rfl⟩ := h.L.rt.shape
    obtain ⟨A2, c2, rfl⟩ := h.L.rr.shape
    obtain ⟨A3, c3, rfl⟩ := h.L.rd.shape
    exact szMap_gen W H A1 A2 A3 _ c1 _ c2 _ c3 left w h0 h1 bt br bd
  clear h
  go_enter Tryz.func4, Tryz.ntmps4
  go_wp2_with fail
  refine (szRules_any _ _ _ _ _ _ l m _ _ _ _ _ _ _ HR.out h0 hL).mono ?_
  rintro e1 w1 ⟨r1, rfl, u1, u2, u3, k1⟩
  have s1 := keepb12 k1 s0
  have U3 := Lib.hid u3
  have K1 := KA.trans k1
  clear s0 k1 u3
  by_cases hneg : r1 < 0
  · go_wp2_with fail
    go_ret
    exact ⟨_, rfl, by omega, by omega, fun h => absurd h (by omega), K1⟩
  · go_wp2_with fail
    refine (C2.out _ _ (by omega) u1).mono ?_
    rintro e2 w2 ⟨r2, rfl, v1, v2, v3, k2⟩
    have V3 := Lib.hid v3
    clear v3
    by_cases hneg2 : r2 < 0
    · go_wp2_with fail
      go_ret
      exact ⟨_, rfl, by omega, by omega, fun h => absurd h (by omega), K1.trans k2⟩
    · go_wp2_with fail
      go_ret
      exact ⟨_, rfl, v1, v2, fun _ => ⟨U3.out (by omega), V3.out (by omega)⟩, K1.trans k2⟩

theorem OwnR.far {w : World} {base g1 g2 nt nk : Nat} {l : List Ter} {m : List Knd} {cs : List (Option Addr × Nat)} {ys zs : List Value} (h : OwnR w base g1 g2 nt nk l m cs ys zs) {b j : Nat} (hb : b < base) (u : Value) : OwnR (w.setCell ⟨b, j, none⟩ u) base g1 g2 nt nk l m cs ys zs :=
  ⟨h.t.far (Nat.lt_of_lt_of_le hb h.b) u, h.k.far (by have := h.b; have := h.g; omega) u, h.lc, h.lt, h.lk, h.b, h.g, by simpa using h.z, h.mid⟩
theorem OwnR.base {w : World} {base b g1 g2 nt nk : Nat} {l : List Ter} {m : List Knd} {cs : List (Option Addr × Nat)} {ys zs : List Value} (h : OwnR w base g1 g2 nt nk l m cs ys zs) (hb : b ≤ base) : OwnR w b g1 g2 nt nk l m cs ys zs :=
  ⟨h.t, h.k, h.lc, h.lt, h.lk, by have := h.b; omega, h.g, h.z, h.mid⟩
theorem Own3.far {w : World} {base : Nat} {t r d : Value} {lt lr ld : List Int} (h : Own3 w base t r d lt lr ld) {b j : Nat} (hb : b < base) (u : Value) : Own3 (w.setCell ⟨b, j, none⟩ u) base t r d lt lr ld :=
  ⟨h.ot.far (h.ot.not hb) u, h.or.far (h.or.not hb) u, h.od.far (h.od.not hb) u, h.tr, h.td, h.rd⟩
theorem Own3.base {w : World} {base b : Nat} {t r d : Value} {lt lr ld : List Int} (h : Own3 w base t r d lt lr ld) (hb : b ≤ base) : Own3 w b t r d lt lr ld :=
  ⟨h.ot.base hb, h.or.base hb, h.od.base hb, h.tr, h.td, h.rd⟩
/-- A copied board: rules, and a map's lists behind them. -/
structure OwnBrd (w : World) (base g1 g2 nt nk : Nat) (l : List Ter) (m : List Knd) (cs : List (Option Addr × Nat)) (ys zs : List Value) (x r y : Value) (lt lr ld : List Int) : Prop where
  R : OwnR w base g1 g2 nt nk l m cs ys zs
  M : Own3 w (g2 + 1) x r y lt lr ld
theorem OwnBrd.keep {w w' : World} {base g1 g2 nt nk : Nat} {l : List Ter} {m : List Knd} {cs : List (Option Addr × Nat)} {ys zs : List Value} {x r y : Value} {lt lr ld : List Int} (h : OwnBrd w base g1 g2 nt nk l m cs ys zs x r y lt lr ld) (k : Kp w w') : OwnBrd w' base g1 g2 nt nk l m cs ys zs x r y lt lr ld :=
  ⟨h.R.keep k, h.M.keep k⟩
theorem OwnBrd.at {w w0 : World} {At Ak : Option Addr} {base g1 g2 nt nk : Nat} {l : List Ter} {m : List Knd} {cs : List (Option Addr × Nat)} {ys zs : List Value} {x r y x0 r0 y0 : Value} {lt lr ld : List Int} (h : OwnBrd w base g1 g2 nt nk l m cs ys zs x r y lt lr ld) (b : BrdAt w0 At Ak nt nk l m x0 r0 y0 lt lr ld) : BrdAt w (some ⟨g1, 0, none⟩) (some ⟨g2, 0, none⟩) nt nk l m x r y lt lr ld :=
  ⟨h.R.rul b.R, h.M.lists b.L⟩

abbrev Live12 (w : World) (b : Nat) (v0 v1 v2 v3 v4 v5 v6 v7 v8 v9 v10 v11 : Value) : Prop :=
  (w.cell? ⟨b, 0, none⟩ = some v0 ∧ w.frozen? ⟨b, 0, none⟩ = false) ∧ (w.cell? ⟨b, 1, none⟩ = some v1 ∧ w.frozen? ⟨b, 1, none⟩ = false) ∧ (w.cell? ⟨b, 2, none⟩ = some v2 ∧ w.frozen? ⟨b, 2, none⟩ = false) ∧ (w.cell? ⟨b, 3, none⟩ = some v3 ∧ w.frozen? ⟨b, 3, none⟩ = false) ∧ (w.cell? ⟨b, 4, none⟩ = some v4 ∧ w.frozen? ⟨b, 4, none⟩ = false) ∧ (w.cell? ⟨b, 5, none⟩ = some v5 ∧ w.frozen? ⟨b, 5, none⟩ = false) ∧ (w.cell? ⟨b, 6, none⟩ = some v6 ∧ w.frozen? ⟨b, 6, none⟩ = false) ∧ (w.cell? ⟨b, 7, none⟩ = some v7 ∧ w.frozen? ⟨b, 7, none⟩ = false) ∧ (w.cell? ⟨b, 8, none⟩ = some v8 ∧ w.frozen? ⟨b, 8, none⟩ = false) ∧ (w.cell? ⟨b, 9, none⟩ = some v9 ∧ w.frozen? ⟨b, 9, none⟩ = false) ∧ (w.cell? ⟨b, 10, none⟩ = some v10 ∧ w.frozen? ⟨b, 10, none⟩ = false) ∧ (w.cell? ⟨b, 11, none⟩ = some v11 ∧ w.frozen? ⟨b, 11, none⟩ = false)
theorem live12_keep {w w' : World} {b : Nat} {v0 v1 v2 v3 v4 v5 v6 v7 v8 v9 v10 v11 : Value} (k : Kp w w') (h : Live12 w b v0 v1 v2 v3 v4 v5 v6 v7 v8 v9 v10 v11) : Live12 w' b v0 v1 v2 v3 v4 v5 v6 v7 v8 v9 v10 v11 :=
  ⟨k.liv h.1, k.liv h.2.1, k.liv h.2.2.1, k.liv h.2.2.2.1, k.liv h.2.2.2.2.1, k.liv h.2.2.2.2.2.1, k.liv h.2.2.2.2.2.2.1, k.liv h.2.2.2.2.2.2.2.1, k.liv h.2.2.2.2.2.2.2.2.1, k.liv h.2.2.2.2.2.2.2.2.2.1, k.liv h.2.2.2.2.2.2.2.2.2.2.1, k.liv h.2.2.2.2.2.2.2.2.2.2.2⟩


set_option maxRecDepth 100000 in
set_option maxHeartbeats 8000000 in
theorem toBoard_any (At Ak : Option Addr) (nt nk ct ck : Nat) (l : List Ter) (m : List Knd) (a b c d e W H : Int) (x r y : Value) (lt lr ld : List Int) (mt mr md : Nat) (w : World) (h : BrdAt w At Ak nt nk l m x r y lt lr ld) (e1 : lt.length = mt) (e2 : lr.length = mr) (e3 : ld.length = md) :
    Calls Tryz.prog 6 #[bv (.slice At nt ct) (.slice Ak nk ck) a b c d e W H x r y] w fun e' w' => ∃ (g1 g2 : Nat) (cs : List (Option Addr × Nat)) (ys zs : List Value) (A1 : Option Addr) (c1 : Nat) (A2 : Option Addr) (c2 : Nat) (A3 : Option Addr) (c3 : Nat), e' = .returned (bv (.slice (some ⟨g1, 0, none⟩) nt nt) (.slice (some ⟨g2, 0, none⟩) nk nk) a b c d e W H (.slice A1 mt c1) (.slice A2 mr c2) (.slice A3 md c3)) ∧ OwnBrd w' w.heap.size g1 g2 nt nk l m cs ys zs (.slice A1 mt c1) (.slice A2 mr c2) (.slice A3 md c3) lt lr ld ∧ Kp w w' := by
  have HB := Lib.hid h
  have k0 : Kp w (((w.alloc (.cells #[.slice At nt ct, .slice Ak nk ck, .int .i64 a, .int .i64 b, .int .i64 c, .int .i64 d, .int .i64 e, .int .i64 W, .int .i64 H, x, r, y] 30)).alloc (.cells #[.slice none 0 0, .slice none 0 0, .int .i64 0, .int .i64 0, .int .i64 0, .int .i64 0, .int .i64 0, .int .i64 0, .int .i64 0, .slice none 0 0, .slice none 0 0, .slice none 0 0] 38)).alloc (.cells #[.slice none 0 0, .slice none 0 0, .int .i64 0, .int .i64 0, .int .i64 0, .int .i64 0, .int .i64 0, .int .i64 0, .int .i64 0, .slice none 0 0, .slice none 0 0, .slice none 0 0] 38)) := (((Kp.refl w).alloc _).alloc _).alloc _
  have CT := Lib.hid (fun w (h : Lists w x r y lt lr ld) => toMap_sl W H x r y lt lr ld mt mr md w h e1 e2 e3)
  clear h e1 e2 e3
  go_enter Tryz.func6, Tryz.ntmps6
  go_wp2_with fail
  refine (toRules_any _ _ _ _ _ _ l m _ _ _ _ _ _ (HB.out.keep k0).R).mono ?_
  rintro e1 w1 ⟨g1, g2, cs, ys, zs, rfl, o1, k1⟩
  have a7 : w1.cell? ⟨w.heap.size, 7, none⟩ = some (.int .i64 W) := k1.cell (by simp [go_sem])
  have a8 : w1.cell? ⟨w.heap.size, 8, none⟩ = some (.int .i64 H) := k1.cell (by simp [go_sem])
  have a9 : w1.cell? ⟨w.heap.size, 9, none⟩ = some (x) := k1.cell (by simp [go_sem])
  have a10 : w1.cell? ⟨w.heap.size, 10, none⟩ = some (r) := k1.cell (by simp [go_sem])
  have a11 : w1.cell? ⟨w.heap.size, 11, none⟩ = some (y) := k1.cell (by simp [go_sem])
  have L1 : Live12 w1 (w.heap.size + 1) (.slice none 0 0) (.slice none 0 0) (.int .i64 0) (.int .i64 0) (.int .i64 0) (.int .i64 0) (.int .i64 0) (.int .i64 0) (.int .i64 0) (.slice none 0 0) (.slice none 0 0) (.slice none 0 0) := live12_keep k1 ⟨by simp [go_sem], by simp [go_sem], by simp [go_sem], by simp [go_sem], by simp [go_sem], by simp [go_sem], by simp [go_sem], by simp [go_sem], by simp [go_sem], by simp [go_sem], by simp [go_sem], by simp [go_sem]⟩
  have M1 : Live12 w1 (w.heap.size + 1 + 1) (.slice none 0 0) (.slice none 0 0) (.int .i64 0) (.int .i64 0) (.int .i64 0) (.int .i64 0) (.int .i64 0) (.int .i64 0) (.int .i64 0) (.slice none 0 0) (.slice none 0 0) (.slice none 0 0) := live12_keep k1 ⟨by simp [go_sem], by simp [go_sem], by simp [go_sem], by simp [go_sem], by simp [go_sem], by simp [go_sem], by simp [go_sem], by simp [go_sem], by simp [go_sem], by simp [go_sem], by simp [go_sem], by simp [go_sem]⟩
  have K1 : Kp w w1 := k0.trans k1
  have eg : (((w.alloc (.cells #[.slice At nt ct, .slice Ak nk ck, .int .i64 a, .int .i64 b, .int .i64 c, .int .i64 d, .int .i64 e, .int .i64 W, .int .i64 H, x, r, y] 30)).alloc (.cells #[.slice none 0 0, .slice none 0 0, .int .i64 0, .int .i64 0, .int .i64 0, .int .i64 0, .int .i64 0, .int .i64 0, .int .i64 0, .slice none 0 0, .slice none 0 0, .slice none 0 0] 38)).alloc (.cells #[.slice none 0 0, .slice none 0 0, .int .i64 0, .int .i64 0, .int .i64 0, .int .i64 0, .int .i64 0, .int .i64 0, .int .i64 0, .slice none 0 0, .slice none 0 0, .slice none 0 0] 38)).heap.size = w.heap.size + 3 := by simp
  rw [eg] at o1
  have z1 : w.heap.size + 3 < w1.heap.size := by have := o1.b; have := o1.g; have := o1.z; omega
  have z1b : g2 < w1.heap.size := o1.z
  have O1 := Lib.hid o1
  clear k0 k1 o1 eg
  go_wp2_with fail
  have K1' : Kp w (((((((w1.setCell ⟨w.heap.size + 1 + 1, 0, none⟩ (.slice (some ⟨g1, 0, none⟩) nt nt)).setCell ⟨w.heap.size + 1 + 1, 1, none⟩ (.slice (some ⟨g2, 0, none⟩) nk nk)).setCell ⟨w.heap.size + 1 + 1, 2, none⟩ (.int .i64 a)).setCell ⟨w.heap.size + 1 + 1, 3, none⟩ (.int .i64 b)).setCell ⟨w.heap.size + 1 + 1, 4, none⟩ (.int .i64 c)).setCell ⟨w.heap.size + 1 + 1, 5, none⟩ (.int .i64 d)).setCell ⟨w.heap.size + 1 + 1, 6, none⟩ (.int .i64 e)) := (((((((K1.setCell (by simp <;> omega) _).setCell (by simp <;> omega) _).setCell (by simp <;> omega) _).setCell (by simp <;> omega) _).setCell (by simp <;> omega) _).setCell (by simp <;> omega) _).setCell (by simp <;> omega) _)
  refine (CT.out _ (HB.out.keep K1').L).mono ?_
  rintro e2 w2 ⟨A1, c1, A2, c2, A3, c3, rfl, o2, k2⟩
  have L2 : Live12 w2 (w.heap.size + 1) (.slice none 0 0) (.slice none 0 0) (.int .i64 0) (.int .i64 0) (.int .i64 0) (.int .i64 0) (.int .i64 0) (.int .i64 0) (.int .i64 0) (.slice none 0 0) (.slice none 0 0) (.slice none 0 0) := live12_keep k2 ⟨by simp [go_sem, *], by simp [go_sem, *], by simp [go_sem, *], by simp [go_sem, *], by simp [go_sem, *], by simp [go_sem, *], by simp [go_sem, *], by simp [go_sem, *], by simp [go_sem, *], by simp [go_sem, *], by simp [go_sem, *], by simp [go_sem, *]⟩
  have M2 : Live12 w2 (w.heap.size + 1 + 1) (.slice (some ⟨g1, 0, none⟩) nt nt) (.slice (some ⟨g2, 0, none⟩) nk nk) (.int .i64 a) (.int .i64 b) (.int .i64 c) (.int .i64 d) (.int .i64 e) (.int .i64 0) (.int .i64 0) (.slice none 0 0) (.slice none 0 0) (.slice none 0 0) := live12_keep k2 ⟨by simp [go_sem, *], by simp [go_sem, *], by simp [go_sem, *], by simp [go_sem, *], by simp [go_sem, *], by simp [go_sem, *], by simp [go_sem, *], by simp [go_sem, *], by simp [go_sem, *], by simp [go_sem, *], by simp [go_sem, *], by simp [go_sem, *]⟩
  have K2 : Kp w w2 := K1'.trans k2
  have O2 := Lib.hid ((((((((O1.out.far (by omega) _).far (by omega) _).far (by omega) _).far (by omega) _).far (by omega) _).far (by omega) _).far (by omega) _).keep k2)
  have eg : (((((((w1.setCell ⟨w.heap.size + 1 + 1, 0, none⟩ (.slice (some ⟨g1, 0, none⟩) nt nt)).setCell ⟨w.heap.size + 1 + 1, 1, none⟩ (.slice (some ⟨g2, 0, none⟩) nk nk)).setCell ⟨w.heap.size + 1 + 1, 2, none⟩ (.int .i64 a)).setCell ⟨w.heap.size + 1 + 1, 3, none⟩ (.int .i64 b)).setCell ⟨w.heap.size + 1 + 1, 4, none⟩ (.int .i64 c)).setCell ⟨w.heap.size + 1 + 1, 5, none⟩ (.int .i64 d)).setCell ⟨w.heap.size + 1 + 1, 6, none⟩ (.int .i64 e)).heap.size = w1.heap.size := by simp
  rw [eg] at o2
  have P2 := Lib.hid o2
  have z2 : w.heap.size + 3 ≤ w2.heap.size := by have := k2.size; rw [eg] at this; omega
  clear K1' k2 o2 a7 a8 a9 a10 a11 L1 M1 K1 O1 eg
  go_wp2_with fail
  refine bodyPost_ret (v := bv (.slice (some ⟨g1, 0, none⟩) nt nt) (.slice (some ⟨g2, 0, none⟩) nk nk) a b c d e W H (.slice A1 mt c1) (.slice A2 mr c2) (.slice A3 md c3)) (by simp [results, Tryz.results6, go_sem, *]) rfl ⟨g1, g2, cs, ys, zs, A1, c1, A2, c2, A3, c3, rfl, ⟨?_, ?_⟩, ?_⟩
  · exact (((((((((((((((((O2.out.far (by omega) _).far (by omega) _).far (by omega) _).far (by omega) _).far (by omega) _).far (by omega) _).far (by omega) _).far (by omega) _).far (by omega) _).far (by omega) _).far (by omega) _).far (by omega) _).far (by omega) _).far (by omega) _).far (by omega) _).far (by omega) _).far (by omega) _).base (by omega)
  · exact (((((((((((((((((P2.out.far (by omega) _).far (by omega) _).far (by omega) _).far (by omega) _).far (by omega) _).far (by omega) _).far (by omega) _).far (by omega) _).far (by omega) _).far (by omega) _).far (by omega) _).far (by omega) _).far (by omega) _).far (by omega) _).far (by omega) _).far (by omega) _).far (by omega) _).base (by omega)
  · exact (((((((((((((((((K2.setCell (by simp <;> omega) _).setCell (by simp <;> omega) _).setCell (by simp <;> omega) _).setCell (by simp <;> omega) _).setCell (by simp <;> omega) _).setCell (by simp <;> omega) _).setCell (by simp <;> omega) _).setCell (by simp <;> omega) _).setCell (by simp <;> omega) _).setCell (by simp <;> omega) _).setCell (by simp <;> omega) _).setCell (by simp <;> omega) _).setCell (by simp <;> omega) _).setCell (by simp <;> omega) _).setCell (by simp <;> omega) _).setCell (by simp <;> omega) _).setCell (by simp <;> omega) _)

set_option maxRecDepth 100000 in
set_option maxHeartbeats 4000000 in
theorem eqBoard_same (At Ak Bt Bk : Option Addr) (nt nk ct ck dt dk : Nat) (l : List Ter) (m : List Knd) (a b c d e W H : Int) (x r y x2 r2 y2 : Value) (lt lr ld : List Int) (w : World) (hA : BrdAt w At Ak nt nk l m x r y lt lr ld) (hB : BrdAt w Bt Bk nt nk l m x2 r2 y2 lt lr ld) :
    Calls Tryz.prog 8 #[bv (.slice At nt ct) (.slice Ak nk ck) a b c d e W H x r y, bv (.slice Bt nt dt) (.slice Bk nk dk) a b c d e W H x2 r2 y2] w fun e' w' => e' = .returned (.bool true) ∧ Kp w w' := by
  have KA : Kp w ((w.alloc (.cells #[.slice At nt ct, .slice Ak nk ck, .int .i64 a, .int .i64 b, .int .i64 c, .int .i64 d, .int .i64 e, .int .i64 W, .int .i64 H, x, r, y] 38)).alloc (.cells #[.slice Bt nt dt, .slice Bk nk dk, .int .i64 a, .int .i64 b, .int .i64 c, .int .i64 d, .int .i64 e, .int .i64 W, .int .i64 H, x2, r2, y2] 38)) := ((Kp.refl w).alloc _).alloc _
  have sA : ((w.alloc (.cells #[.slice At nt ct, .slice Ak nk ck, .int .i64 a, .int .i64 b, .int .i64 c, .int .i64 d, .int .i64 e, .int .i64 W, .int .i64 H, x, r, y] 38)).alloc (.cells #[.slice Bt nt dt, .slice Bk nk dk, .int .i64 a, .int .i64 b, .int .i64 c, .int .i64 d, .int .i64 e, .int .i64 W, .int .i64 H, x2, r2, y2] 38)).cell? ⟨w.heap.size, 0, none⟩ = some (.slice At nt ct) ∧ ((w.alloc (.cells #[.slice At nt ct, .slice Ak nk ck, .int .i64 a, .int .i64 b, .int .i64 c, .int .i64 d, .int .i64 e, .int .i64 W, .int .i64 H, x, r, y] 38)).alloc (.cells #[.slice Bt nt dt, .slice Bk nk dk, .int .i64 a, .int .i64 b, .int .i64 c, .int .i64 d, .int .i64 e, .int .i64 W, .int .i64 H, x2, r2, y2] 38)).cell? ⟨w.heap.size, 1, none⟩ = some (.slice Ak nk ck) ∧ ((w.alloc (.cells #[.slice At nt ct, .slice Ak nk ck, .int .i64 a, .int .i64 b, .int .i64 c, .int .i64 d, .int .i64 e, .int .i64 W, .int .i64 H, x, r, y] 38)).alloc (.cells #[.slice Bt nt dt, .slice Bk nk dk, .int .i64 a, .int .i64 b, .int .i64 c, .int .i64 d, .int .i64 e, .int .i64 W, .int .i64 H, x2, r2, y2] 38)).cell? ⟨w.heap.size, 2, none⟩ = some (.int .i64 a) ∧ ((w.alloc (.cells #[.slice At nt ct, .slice Ak nk ck, .int .i64 a, .int .i64 b, .int .i64 c, .int .i64 d, .int .i64 e, .int .i64 W, .int .i64 H, x, r, y] 38)).alloc (.cells #[.slice Bt nt dt, .slice Bk nk dk, .int .i64 a, .int .i64 b, .int .i64 c, .int .i64 d, .int .i64 e, .int .i64 W, .int .i64 H, x2, r2, y2] 38)).cell? ⟨w.heap.size, 3, none⟩ = some (.int .i64 b) ∧ ((w.alloc (.cells #[.slice At nt ct, .slice Ak nk ck, .int .i64 a, .int .i64 b, .int .i64 c, .int .i64 d, .int .i64 e, .int .i64 W, .int .i64 H, x, r, y] 38)).alloc (.cells #[.slice Bt nt dt, .slice Bk nk dk, .int .i64 a, .int .i64 b, .int .i64 c, .int .i64 d, .int .i64 e, .int .i64 W, .int .i64 H, x2, r2, y2] 38)).cell? ⟨w.heap.size, 4, none⟩ = some (.int .i64 c) ∧ ((w.alloc (.cells #[.slice At nt ct, .slice Ak nk ck, .int .i64 a, .int .i64 b, .int .i64 c, .int .i64 d, .int .i64 e, .int .i64 W, .int .i64 H, x, r, y] 38)).alloc (.cells #[.slice Bt nt dt, .slice Bk nk dk, .int .i64 a, .int .i64 b, .int .i64 c, .int .i64 d, .int .i64 e, .int .i64 W, .int .i64 H, x2, r2, y2] 38)).cell? ⟨w.heap.size, 5, none⟩ = some (.int .i64 d) ∧ ((w.alloc (.cells #[.slice At nt ct, .slice Ak nk ck, .int .i64 a, .int .i64 b, .int .i64 c, .int .i64 d, .int .i64 e, .int .i64 W, .int .i64 H, x, r, y] 38)).alloc (.cells #[.slice Bt nt dt, .slice Bk nk dk, .int .i64 a, .int .i64 b, .int .i64 c, .int .i64 d, .int .i64 e, .int .i64 W, .int .i64 H, x2, r2, y2] 38)).cell? ⟨w.heap.size, 6, none⟩ = some (.int .i64 e) ∧ ((w.alloc (.cells #[.slice At nt ct, .slice Ak nk ck, .int .i64 a, .int .i64 b, .int .i64 c, .int .i64 d, .int .i64 e, .int .i64 W, .int .i64 H, x, r, y] 38)).alloc (.cells #[.slice Bt nt dt, .slice Bk nk dk, .int .i64 a, .int .i64 b, .int .i64 c, .int .i64 d, .int .i64 e, .int .i64 W, .int .i64 H, x2, r2, y2] 38)).cell? ⟨w.heap.size, 7, none⟩ = some (.int .i64 W) ∧ ((w.alloc (.cells #[.slice At nt ct, .slice Ak nk ck, .int .i64 a, .int .i64 b, .int .i64 c, .int .i64 d, .int .i64 e, .int .i64 W, .int .i64 H, x, r, y] 38)).alloc (.cells #[.slice Bt nt dt, .slice Bk nk dk, .int .i64 a, .int .i64 b, .int .i64 c, .int .i64 d, .int .i64 e, .int .i64 W, .int .i64 H, x2, r2, y2] 38)).cell? ⟨w.heap.size, 8, none⟩ = some (.int .i64 H) ∧ ((w.alloc (.cells #[.slice At nt ct, .slice Ak nk ck, .int .i64 a, .int .i64 b, .int .i64 c, .int .i64 d, .int .i64 e, .int .i64 W, .int .i64 H, x, r, y] 38)).alloc (.cells #[.slice Bt nt dt, .slice Bk nk dk, .int .i64 a, .int .i64 b, .int .i64 c, .int .i64 d, .int .i64 e, .int .i64 W, .int .i64 H, x2, r2, y2] 38)).cell? ⟨w.heap.size, 9, none⟩ = some (x) ∧ ((w.alloc (.cells #[.slice At nt ct, .slice Ak nk ck, .int .i64 a, .int .i64 b, .int .i64 c, .int .i64 d, .int .i64 e, .int .i64 W, .int .i64 H, x, r, y] 38)).alloc (.cells #[.slice Bt nt dt, .slice Bk nk dk, .int .i64 a, .int .i64 b, .int .i64 c, .int .i64 d, .int .i64 e, .int .i64 W, .int .i64 H, x2, r2, y2] 38)).cell? ⟨w.heap.size, 10, none⟩ = some (r) ∧ ((w.alloc (.cells #[.slice At nt ct, .slice Ak nk ck, .int .i64 a, .int .i64 b, .int .i64 c, .int .i64 d, .int .i64 e, .int .i64 W, .int .i64 H, x, r, y] 38)).alloc (.cells #[.slice Bt nt dt, .slice Bk nk dk, .int .i64 a, .int .i64 b, .int .i64 c, .int .i64 d, .int .i64 e, .int .i64 W, .int .i64 H, x2, r2, y2] 38)).cell? ⟨w.heap.size, 11, none⟩ = some (y) := ⟨by simp [go_sem], by simp [go_sem], by simp [go_sem], by simp [go_sem], by simp [go_sem], by simp [go_sem], by simp [go_sem], by simp [go_sem], by simp [go_sem], by simp [go_sem], by simp [go_sem], by simp [go_sem]⟩
  have sB : ((w.alloc (.cells #[.slice At nt ct, .slice Ak nk ck, .int .i64 a, .int .i64 b, .int .i64 c, .int .i64 d, .int .i64 e, .int .i64 W, .int .i64 H, x, r, y] 38)).alloc (.cells #[.slice Bt nt dt, .slice Bk nk dk, .int .i64 a, .int .i64 b, .int .i64 c, .int .i64 d, .int .i64 e, .int .i64 W, .int .i64 H, x2, r2, y2] 38)).cell? ⟨w.heap.size + 1, 0, none⟩ = some (.slice Bt nt dt) ∧ ((w.alloc (.cells #[.slice At nt ct, .slice Ak nk ck, .int .i64 a, .int .i64 b, .int .i64 c, .int .i64 d, .int .i64 e, .int .i64 W, .int .i64 H, x, r, y] 38)).alloc (.cells #[.slice Bt nt dt, .slice Bk nk dk, .int .i64 a, .int .i64 b, .int .i64 c, .int .i64 d, .int .i64 e, .int .i64 W, .int .i64 H, x2, r2, y2] 38)).cell? ⟨w.heap.size + 1, 1, none⟩ = some (.slice Bk nk dk) ∧ ((w.alloc (.cells #[.slice At nt ct, .slice Ak nk ck, .int .i64 a, .int .i64 b, .int .i64 c, .int .i64 d, .int .i64 e, .int .i64 W, .int .i64 H, x, r, y] 38)).alloc (.cells #[.slice Bt nt dt, .slice Bk nk dk, .int .i64 a, .int .i64 b, .int .i64 c, .int .i64 d, .int .i64 e, .int .i64 W, .int .i64 H, x2, r2, y2] 38)).cell? ⟨w.heap.size + 1, 2, none⟩ = some (.int .i64 a) ∧ ((w.alloc (.cells #[.slice At nt ct, .slice Ak nk ck, .int .i64 a, .int .i64 b, .int .i64 c, .int .i64 d, .int .i64 e, .int .i64 W, .int .i64 H, x, r, y] 38)).alloc (.cells #[.slice Bt nt dt, .slice Bk nk dk, .int .i64 a, .int .i64 b, .int .i64 c, .int .i64 d, .int .i64 e, .int .i64 W, .int .i64 H, x2, r2, y2] 38)).cell? ⟨w.heap.size + 1, 3, none⟩ = some (.int .i64 b) ∧ ((w.alloc (.cells #[.slice At nt ct, .slice Ak nk ck, .int .i64 a, .int .i64 b, .int .i64 c, .int .i64 d, .int .i64 e, .int .i64 W, .int .i64 H, x, r, y] 38)).alloc (.cells #[.slice Bt nt dt, .slice Bk nk dk, .int .i64 a, .int .i64 b, .int .i64 c, .int .i64 d, .int .i64 e, .int .i64 W, .int .i64 H, x2, r2, y2] 38)).cell? ⟨w.heap.size + 1, 4, none⟩ = some (.int .i64 c) ∧ ((w.alloc (.cells #[.slice At nt ct, .slice Ak nk ck, .int .i64 a, .int .i64 b, .int .i64 c, .int .i64 d, .int .i64 e, .int .i64 W, .int .i64 H, x, r, y] 38)).alloc (.cells #[.slice Bt nt dt, .slice Bk nk dk, .int .i64 a, .int .i64 b, .int .i64 c, .int .i64 d, .int .i64 e, .int .i64 W, .int .i64 H, x2, r2, y2] 38)).cell? ⟨w.heap.size + 1, 5, none⟩ = some (.int .i64 d) ∧ ((w.alloc (.cells #[.slice At nt ct, .slice Ak nk ck, .int .i64 a, .int .i64 b, .int .i64 c, .int .i64 d, .int .i64 e, .int .i64 W, .int .i64 H, x, r, y] 38)).alloc (.cells #[.slice Bt nt dt, .slice Bk nk dk, .int .i64 a, .int .i64 b, .int .i64 c, .int .i64 d, .int .i64 e, .int .i64 W, .int .i64 H, x2, r2, y2] 38)).cell? ⟨w.heap.size + 1, 6, none⟩ = some (.int .i64 e) ∧ ((w.alloc (.cells #[.slice At nt ct, .slice Ak nk ck, .int .i64 a, .int .i64 b, .int .i64 c, .int .i64 d, .int .i64 e, .int .i64 W, .int .i64 H, x, r, y] 38)).alloc (.cells #[.slice Bt nt dt, .slice Bk nk dk, .int .i64 a, .int .i64 b, .int .i64 c, .int .i64 d, .int .i64 e, .int .i64 W, .int .i64 H, x2, r2, y2] 38)).cell? ⟨w.heap.size + 1, 7, none⟩ = some (.int .i64 W) ∧ ((w.alloc (.cells #[.slice At nt ct, .slice Ak nk ck, .int .i64 a, .int .i64 b, .int .i64 c, .int .i64 d, .int .i64 e, .int .i64 W, .int .i64 H, x, r, y] 38)).alloc (.cells #[.slice Bt nt dt, .slice Bk nk dk, .int .i64 a, .int .i64 b, .int .i64 c, .int .i64 d, .int .i64 e, .int .i64 W, .int .i64 H, x2, r2, y2] 38)).cell? ⟨w.heap.size + 1, 8, none⟩ = some (.int .i64 H) ∧ ((w.alloc (.cells #[.slice At nt ct, .slice Ak nk ck, .int .i64 a, .int .i64 b, .int .i64 c, .int .i64 d, .int .i64 e, .int .i64 W, .int .i64 H, x, r, y] 38)).alloc (.cells #[.slice Bt nt dt, .slice Bk nk dk, .int .i64 a, .int .i64 b, .int .i64 c, .int .i64 d, .int .i64 e, .int .i64 W, .int .i64 H, x2, r2, y2] 38)).cell? ⟨w.heap.size + 1, 9, none⟩ = some (x2) ∧ ((w.alloc (.cells #[.slice At nt ct, .slice Ak nk ck, .int .i64 a, .int .i64 b, .int .i64 c, .int .i64 d, .int .i64 e, .int .i64 W, .int .i64 H, x, r, y] 38)).alloc (.cells #[.slice Bt nt dt, .slice Bk nk dk, .int .i64 a, .int .i64 b, .int .i64 c, .int .i64 d, .int .i64 e, .int .i64 W, .int .i64 H, x2, r2, y2] 38)).cell? ⟨w.heap.size + 1, 10, none⟩ = some (r2) ∧ ((w.alloc (.cells #[.slice At nt ct, .slice Ak nk ck, .int .i64 a, .int .i64 b, .int .i64 c, .int .i64 d, .int .i64 e, .int .i64 W, .int .i64 H, x, r, y] 38)).alloc (.cells #[.slice Bt nt dt, .slice Bk nk dk, .int .i64 a, .int .i64 b, .int .i64 c, .int .i64 d, .int .i64 e, .int .i64 W, .int .i64 H, x2, r2, y2] 38)).cell? ⟨w.heap.size + 1, 11, none⟩ = some (y2) := ⟨by simp [go_sem], by simp [go_sem], by simp [go_sem], by simp [go_sem], by simp [go_sem], by simp [go_sem], by simp [go_sem], by simp [go_sem], by simp [go_sem], by simp [go_sem], by simp [go_sem], by simp [go_sem]⟩
  have HA := Lib.hid (hA.keep KA)
  have HB := Lib.hid (hB.keep KA)
  clear hA hB
  go_enter Tryz.func8, Tryz.ntmps8
  go_wp2_with fail
  refine (eqRules_same _ _ _ _ _ _ _ _ _ _ l m _ _ _ _ _ _ HA.out.R.rt HA.out.R.rk HB.out.R.rt HB.out.R.rk HA.out.R.bt HA.out.R.bk (fun x hx => (HA.out.R.bc x hx).1)).mono ?_
  rintro e1 w1 ⟨rfl, k1⟩
  have tA := keepb12 k1 sA
  have tB := keepb12 k1 sB
  have K1 := KA.trans k1
  have HA1 := Lib.hid (HA.out.keep k1)
  have HB1 := Lib.hid (HB.out.keep k1)
  clear sA sB k1 HA HB
  go_wp2_with fail
  refine (eqMap_same _ _ _ _ _ _ _ _ lt lr ld _ HA1.out.L HB1.out.L).mono ?_
  rintro e2 w2 ⟨rfl, k2⟩
  go_wp2_with fail
  go_ret
  exact ⟨rfl, K1.trans k2⟩

theorem cellsBrd : Tryz.prog.cellsOf 30 = 12 := by kernel_rfl
theorem boardFields : ∃ f0 f1 : Field, Tryz.prog.underlying 30 = some (.struct #[f0, f1]) ∧ f0.type = 25 ∧ f1.type = 28 ∧ f0.offset = 0 ∧ f1.offset = 7 :=
  ⟨_, _, Tryz.underlying30, rfl, rfl, rfl, rfl⟩
set_option maxRecDepth 100000 in
/-- Five cells that read as a map. -/
theorem map_cells {H : Type} {enc : TypeId × Value → H} {W : World} {cs : List Value} {n : Nat} (hl : cs.length = 5)
    (hf : ∀ (j : Nat) (f : Field), (match Tryz.prog.underlying 28 with | some (.struct fs) => fs | _ => #[])[j]? = some f → ∃ c y, cs[j]? = some c ∧ DataW.trod enc Tryz.prog W 0 (fun _ => true) true n f.type [c] = some y) :
    ∃ (wd ht : Int) (t r e : Value) (lt lr ld : List Int), cs = [.int .i64 wd, .int .i64 ht, t, r, e] ∧ Reads W t r e lt lr ld := by
  rw [Tryz.underlying28] at hf
  obtain ⟨c0, y0, q0, h0⟩ := hf 0 _ rfl
  obtain ⟨c1, y1, q1, h1⟩ := hf 1 _ rfl
  obtain ⟨c2, y2, q2, h2⟩ := hf 2 _ rfl
  obtain ⟨c3, y3, q3, h3⟩ := hf 3 _ rfl
  obtain ⟨c4, y4, q4, h4⟩ := hf 4 _ rfl
  obtain rfl := five hl q0 q1 q2 q3 q4
  obtain ⟨a, e0, rfl, wa⟩ := DataW.trod_int Tryz.underlying3 h0
  obtain ⟨b, e1, rfl, wb⟩ := DataW.trod_int Tryz.underlying3 h1
  simp only [List.cons.injEq, and_true] at e0 e1
  subst e0 e1
  obtain ⟨lt, r1, r2, r3⟩ := rdB_of_trod h2
  obtain ⟨lr, s1, s2, s3⟩ := rdB_of_trod h3
  obtain ⟨ld, t1, t2, t3⟩ := rdB_of_trod h4
  exact ⟨a, b, c2, c3, c4, lt, lr, ld, rfl, ⟨r1, s1, t1, r2, s2, t2, r3, s3, t3⟩⟩

set_option maxRecDepth 100000 in
/-- Twelve cells that read as a board. -/
theorem board_cells {H : Type} {enc : TypeId × Value → H} {W : World} {cs : List Value} {n : Nat} {y : DataW H × List MemPlace} (hl : cs.length = 12) (hf : DataW.trod enc Tryz.prog W 0 (fun _ => true) true n 30 cs = some y) :
    ∃ (At Ak : Option Addr) (nt nk ct ck : Nat) (l : List Ter) (m : List Knd) (a b c d e W' H' : Int) (x r y : Value) (lt lr ld : List Int), cs = [.slice At nt ct, .slice Ak nk ck, .int .i64 a, .int .i64 b, .int .i64 c, .int .i64 d, .int .i64 e, .int .i64 W', .int .i64 H', x, r, y] ∧ BrdIn W At Ak nt nk l m x r y lt lr ld ∧ ∀ x ∈ l, ∀ z ∈ x.cost, -9223372036854775808 ≤ z ∧ z ≤ 9223372036854775807 := by
  obtain ⟨f0, f1, hu, e0, e1, o0, o1⟩ := boardFields
  obtain ⟨y0, y1, n', hx, hlen, u0, u1⟩ := trod_struct2 hu hf
  rw [e0, o0, cellsRul] at u0
  rw [e1, o1, cellsMap] at u1
  have l0 : ((cs.drop 0).take 7).length = 7 := by simp; omega
  have l1 : ((cs.drop 7).take 5).length = 5 := by simp; omega
  obtain ⟨k0, h0⟩ := fields_of_trod Tryz.underlying25 (by kernel_rfl) rfl l0 u0
  obtain ⟨k1, h1⟩ := fields_of_trod Tryz.underlying28 (by kernel_rfl) rfl l1 u1
  obtain ⟨At, Ak, nt, nk, ct, ck, l, m, a, b, c, d, e, r0, r1, r2⟩ := rules_cells (n := k0) l0 (by rw [Tryz.underlying25]; exact h0)
  obtain ⟨wd, ht, t, r, z, lt, lr, ld, q0, q1⟩ := map_cells (n := k1) l1 (by rw [Tryz.underlying28]; exact h1)
  refine ⟨At, Ak, nt, nk, ct, ck, l, m, a, b, c, d, e, wd, ht, t, r, z, lt, lr, ld, ?_, ⟨r1, q1⟩, r2⟩
  have e5 : (cs.drop 7).take 5 = cs.drop 7 := List.take_of_length_le (by simp; omega)
  rw [e5] at q0
  rw [List.drop_zero] at r0
  rw [← List.take_append_drop 7 cs, r0, q0]
  rfl

set_option maxRecDepth 100000 in
/-- An argument of type Board. -/
theorem open_board {H : Type} {enc : TypeId × Value → H} {W : World} {base : Nat} {v : Value} {d : DataW H} {p : List MemPlace}
    (hv : Value.okWide Tryz.prog W .any base 30 v) (h : DataW.Trod enc Tryz.prog W 0 (fun _ => true) true 30 v d p) :
    ∃ (At Ak : Option Addr) (nt nk ct ck : Nat) (l : List Ter) (m : List Knd) (a b c d e W' H' : Int) (x r y : Value) (lt lr ld : List Int), v = bv (.slice At nt ct) (.slice Ak nk ck) a b c d e W' H' x r y ∧ BrdIn W At Ak nt nk l m x r y lt lr ld ∧ ∀ x ∈ l, ∀ z ∈ x.cost, -9223372036854775808 ≤ z ∧ z ≤ 9223372036854775807 := by
  obtain ⟨⟨cs⟩, rfl, hsz⟩ := okWide_struct Tryz.underlying30 hv
  obtain ⟨fuel, hf⟩ := h
  obtain ⟨At, Ak, nt, nk, ct, ck, l, m, a, b, c, d, e, W', H', x, r, y, lt, lr, ld, e0, h1, h2⟩ := board_cells (cs := cs) (hsz.trans cellsBrd) hf
  exact ⟨At, Ak, nt, nk, ct, ck, l, m, a, b, c, d, e, W', H', x, r, y, lt, lr, ld, by rw [e0], h1, h2⟩

end Go.Proofs.YtmolpkjdjkhnpaaGreatDoor

/-
  Marking the cells of slices of integers that the call owns with k, k+1, .., and finding the marks again.
-/
namespace Go.Proofs.YtmolpkjdjkhnpaaGreatDoor
open Go.RowKit

theorem marks1_step (k0 : Int) (xs : List Value) (t n : Nat) (hl : xs.length = n * 1) (ht : t < n) :
    (marks k0 t ++ xs.drop t).set t (.int .i64 (k0 + t)) = marks k0 (t + 1) ++ xs.drop (t + 1) := by
  apply List.ext_getElem?
  intro j
  rw [List.getElem?_set]
  simp only [List.length_append, marks_length, List.length_drop]
  by_cases h1 : t = j
  · subst h1
    rw [if_pos rfl, if_pos (by omega), List.getElem?_append_left (by rw [marks_length]; omega), marks_at _ _ _ (by omega)]
  · rw [if_neg h1]
    by_cases h3 : j < t
    · rw [List.getElem?_append_left (by rw [marks_length]; omega), List.getElem?_append_left (by rw [marks_length]; omega), marks_at _ _ _ h3, marks_at _ _ _ (by omega)]
    · rw [List.getElem?_append_right (by rw [marks_length]; omega), List.getElem?_append_right (by rw [marks_length]; omega), marks_length, marks_length, List.getElem?_drop, List.getElem?_drop]
      congr 1
      omega

theorem markIntS_own (v : Value) (n base : Nat) (k0 : Int) (xs : List Value) (w : World) (h0 : 0 ≤ k0) (h1 : k0 ≤ 1000000000000000) (hn : n ≤ 1048576) (hown : w.ownsRow base 3 1 v n xs) :
    Calls Tryz.prog 53 #[v, .int .i64 k0] w fun e w' => e = .returned (.int .i64 (k0 + n)) ∧ w'.ownsRow base 3 1 v n (marks k0 n) ∧ w.grownBy w' v.ownBlock := by
  rcases hown.2 with ⟨rfl, rfl⟩ | ⟨g, cap, cur, rfl, _⟩
  · go_enter Tryz.func53, Tryz.ntmps53
    go_wp2_with fail
    go_loop [1, 5] (fun k i => k = .int .i64 k0 ∧ i = .int .i64 0) (fun _ _ => 0)
    case atStart => exact ⟨rfl, rfl⟩
    case round =>
      obtain ⟨rfl, rfl⟩ := hrel
      go_wp2_with fail
      go_ret
      exact ⟨ret_int (by simp), World.ownsRow_nil _ _ _ _, World.grownBy.refl w _⟩
  · have hl : xs.length = n * 1 := hown.1
    have HL := Lib.hid hl
    clear hl
    go_enter Tryz.func53, Tryz.ntmps53
    go_wp2_with fail
    go_loopw [1, 5] (fun kk i wr => ∃ t : Nat, t ≤ n ∧ i = .int .i64 t ∧ kk = .int .i64 (k0 + t) ∧ wr.ownsRow base 3 1 (.slice (some ⟨g, 0, none⟩) n cap) n (marks k0 t ++ xs.drop t) ∧ w.grownBy wr (some g)) (fun _ i _ => n - (intOf i).toNat)
    case atStart => exact ⟨0, by omega, rfl, by simp, by simpa [marks] using hown, World.grownBy.refl w _⟩
    case round =>
      obtain ⟨t, ht, rfl, rfl, ho, hg⟩ := hrel
      by_cases hlt : t < n
      · have hlt' : (t : Int) < n := by omega
        have hlen : (marks k0 t ++ xs.drop t).length = n * 1 := ho.1
        obtain ⟨u0, hu0⟩ : ∃ u, wr.cell? ⟨g, t, none⟩ = some u := ⟨_, (ho.cellAt t (by omega)).trans (List.getElem?_eq_getElem (by omega))⟩
        have f0 := ho.frozenAt t
        clear hlen
        go_wp2_with fail
        go_roundw
        case rel =>
          obtain ⟨o1, g1⟩ := ho.stored t (.int .i64 (k0 + t))
          refine ⟨t + 1, by omega, by go_num, by go_num, ?_, hg.trans g1⟩
          rw [← marks1_step k0 xs t n HL.out hlt]
          exact o1
        case measure => simp [intOf]; omega
      · obtain rfl : t = n := by omega
        go_wp2_with fail
        go_ret
        refine ⟨rfl, ?_, hg⟩
        have e : xs.drop t = [] := List.drop_of_length_le (by rw [HL.out]; omega)
        rw [e, List.append_nil] at ho
        exact ho

theorem heldIntS_own (v : Value) (n base : Nat) (k0 : Int) (w : World) (h0 : 0 ≤ k0) (h1 : k0 ≤ 1000000000000000) (hn : n ≤ 1048576) (hown : w.ownsRow base 3 1 v n (marks k0 n)) :
    Calls Tryz.prog 56 #[v, .int .i64 k0] w fun e w' => e = .returned (.int .i64 (k0 + n)) ∧ Kp w w' := by
  rcases hown.2 with ⟨rfl, rfl⟩ | ⟨g, cap, cur, rfl, _⟩
  · go_enter Tryz.func56, Tryz.ntmps56
    go_wp2_with fail
    go_loop [1, 5] (fun k i => k = .int .i64 k0 ∧ i = .int .i64 0) (fun _ _ => 0)
    case atStart => exact ⟨rfl, rfl⟩
    case round =>
      obtain ⟨rfl, rfl⟩ := hrel
      go_wp2_with fail
      go_ret
      exact ⟨ret_int (by simp), Kp.refl _⟩
  · go_enter Tryz.func56, Tryz.ntmps56
    go_wp2_with fail
    go_loopw [1, 5] (fun kk i wr => ∃ t : Nat, t ≤ n ∧ i = .int .i64 t ∧ kk = .int .i64 (k0 + t) ∧ Kp w wr) (fun _ i _ => n - (intOf i).toNat)
    case atStart => exact ⟨0, by omega, rfl, by simp, Kp.refl _⟩
    case round =>
      obtain ⟨t, ht, rfl, rfl, kr⟩ := hrel
      by_cases hlt : t < n
      · have hlt' : (t : Int) < n := by omega
        have c0 : wr.cell? ⟨g, t, none⟩ = some (.int .i64 (k0 + t)) := kr.cell ((hown.cellAt t (by omega)).trans (marks_at _ _ _ (by omega)))
        have hne : ((k0 + (t : Int)) != (k0 + (t : Int))) = false := by simp
        go_wp2_with fail
        go_roundw
        case rel => exact ⟨t + 1, by omega, by go_num, by go_num, kr⟩
        case measure => simp [intOf]; omega
      · obtain rfl : t = n := by omega
        go_wp2_with fail
        go_ret
        exact ⟨rfl, kr⟩

theorem OwnI.block' {w : World} {base : Nat} {v : Value} {l : List Int} (h : OwnI w base v l) (g : Nat) (hg : w.heap.size ≤ g) : v.ownBlock ≠ some g := fun e => by
  have := (World.ownsRow.lt h g e).2
  omega

theorem apart_ne {x y : Value} (h : ∀ g, x.ownBlock = some g → y.ownBlock ≠ some g) : y.ownBlock = none ∨ y.ownBlock ≠ x.ownBlock := by
  cases hy : y.ownBlock
  · exact .inl rfl
  · rename_i g
    exact .inr fun e => h g e.symm hy
theorem apart_sym {x y : Value} (h : ∀ g, x.ownBlock = some g → y.ownBlock ≠ some g) : ∀ g, y.ownBlock = some g → x.ownBlock ≠ some g := fun g hy hx => h g hx hy

end Go.Proofs.YtmolpkjdjkhnpaaGreatDoor

/-
  Marking the cells of slices of integers that the call owns with k, k+1, .., and finding the marks again; the same for the three lists of a map.
-/
namespace Go.Proofs.YtmolpkjdjkhnpaaGreatDoor
open Go.RowKit

/-- Only the three slices' own blocks, and new ones, have been written. -/
def Marked (w w' : World) (t r d : Value) : Prop := ∃ w0 wa wb, Kp w w0 ∧ w0.grownBy wa t.ownBlock ∧ wa.grownBy wb r.ownBlock ∧ wb.grownBy w' d.ownBlock
theorem Marked.kp {w w' W0 : World} {t r d : Value} {base : Nat} {lt lr ld : List Int} (h : Marked w w' t r d) (o : Own3 w base t r d lt lr ld) (k : Kp W0 w) (hb : W0.heap.size ≤ base) : Kp W0 w' := by
  obtain ⟨w0, wa, wb, k0, g1, g2, g3⟩ := h
  exact (((k.trans k0).grown g1 (fun k e => Nat.le_trans hb (World.ownsRow.lt o.ot k e).1)).grown g2 (fun k e => Nat.le_trans hb (World.ownsRow.lt o.or k e).1)).grown g3 (fun k e => Nat.le_trans hb (World.ownsRow.lt o.od k e).1)
theorem Marked.own {w w' : World} {t r d v : Value} {base : Nat} {e : TypeId} {sz n : Nat} {xs : List Value} (h : Marked w w' t r d) (o : w.ownsRow base e sz v n xs)
    (h1 : ∀ g, v.ownBlock = some g → t.ownBlock ≠ some g ∧ r.ownBlock ≠ some g ∧ d.ownBlock ≠ some g) : w'.ownsRow base e sz v n xs := by
  obtain ⟨w0, wa, wb, k0, g1, g2, g3⟩ := h
  have ne : ∀ (x : Value), (∀ g, v.ownBlock = some g → x.ownBlock ≠ some g) → v.ownBlock = none ∨ v.ownBlock ≠ x.ownBlock := fun x hx => by
    cases hv : v.ownBlock
    · exact .inl rfl
    · rename_i g
      exact .inr fun e => hx g hv e.symm
  exact (((ownsRow_keep o k0).kept g1 (ne t fun g hg => (h1 g hg).1)).kept g2 (ne r fun g hg => (h1 g hg).2.1)).kept g3 (ne d fun g hg => (h1 g hg).2.2)

/-- The three lists of a map, marked one behind the other. -/
structure Marks3 (w : World) (base : Nat) (t r d : Value) (nt nr nd : Nat) : Prop where
  ot : w.ownsRow base 3 1 t nt (marks 1 nt)
  or : w.ownsRow base 3 1 r nr (marks (1 + nt) nr)
  od : w.ownsRow base 3 1 d nd (marks (1 + nt + nr) nd)
theorem Marks3.keep {w w' : World} {base : Nat} {t r d : Value} {nt nr nd : Nat} (h : Marks3 w base t r d nt nr nd) (k : Kp w w') : Marks3 w' base t r d nt nr nd :=
  ⟨ownsRow_keep h.ot k, ownsRow_keep h.or k, ownsRow_keep h.od k⟩

theorem markMap_any (W H : Int) (t r d : Value) (lt lr ld : List Int) (nt nr nd base : Nat) (w : World) (ho : Own3 w base t r d lt lr ld) (h1 : lt.length = nt) (h2 : lr.length = nr) (h3 : ld.length = nd) (b1 : nt ≤ 1048576) (b2 : nr ≤ 1048576) (b3 : nd ≤ 1048576) :
    Calls Tryz.prog 24 #[mp W H t r d, .int .i64 1] w fun e w' => e = .returned (.int .i64 (1 + nt + nr + nd)) ∧ Marked w w' t r d ∧ Marks3 w' base t r d nt nr nd := by
  have o1 : w.ownsRow base 3 1 t nt (cellsI lt) := by rw [← h1]; exact ho.ot
  have o2 : w.ownsRow base 3 1 r nr (cellsI lr) := by rw [← h2]; exact ho.or
  have o3 : w.ownsRow base 3 1 d nd (cellsI ld) := by rw [← h3]; exact ho.od
  have n1 := Lib.hid (ho.ot.block' w.heap.size (Nat.le_refl _))
  have n2 := Lib.hid (ho.or.block' w.heap.size (Nat.le_refl _))
  have AP := Lib.hid (And.intro ho.tr (And.intro ho.td ho.rd))
  have s0 := new5 w (.int .i64 W) (.int .i64 H) t r d 36
  have k0 := s0.2.2.2.2.2
  have O1 := Lib.hid (ownsRow_keep o1 k0)
  have O2 := Lib.hid (ownsRow_keep o2 k0)
  have O3 := Lib.hid (ownsRow_keep o3 k0)
  clear ho h1 h2 h3 o1 o2 o3
  go_enter Tryz.func24, Tryz.ntmps24
  go_wp2_with fail
  refine (markIntS_own _ _ base _ _ _ (by omega) (by omega) b1 O1.out).mono ?_
  rintro e1 wa ⟨rfl, oa, ga⟩
  have c3 := ga.cell s0.2.2.2.1 (fun e => n1.out e.symm)
  have c4 := ga.cell s0.2.2.2.2.1 (fun e => n1.out e.symm)
  have P2 := Lib.hid (World.ownsRow.kept O2.out ga (apart_ne AP.out.1))
  have P3 := Lib.hid (World.ownsRow.kept O3.out ga (apart_ne AP.out.2.1))
  have P1 := Lib.hid oa
  have GA := Lib.hid ga
  clear oa ga s0 O1 O2 O3
  go_wp2_with fail
  refine (markIntS_own _ _ base _ _ _ (by omega) (by omega) b2 P2.out).mono ?_
  rintro e2 wb ⟨rfl, ob, gb⟩
  have d4 := gb.cell c4 (fun e => n2.out e.symm)
  have Q1 := Lib.hid (World.ownsRow.kept P1.out gb (apart_ne (apart_sym AP.out.1)))
  have Q3 := Lib.hid (World.ownsRow.kept P3.out gb (apart_ne AP.out.2.2))
  have Q2 := Lib.hid ob
  have GB := Lib.hid gb
  clear ob gb c3 c4 P1 P2 P3
  go_wp2_with fail
  refine (markIntS_own _ _ base _ _ _ (by omega) (by omega) b3 Q3.out).mono ?_
  rintro e3 wc ⟨rfl, oc, gc⟩
  have R1 := Lib.hid (World.ownsRow.kept Q1.out gc (apart_ne (apart_sym AP.out.2.1)))
  have R2 := Lib.hid (World.ownsRow.kept Q2.out gc (apart_ne (apart_sym AP.out.2.2)))
  have R3 := Lib.hid oc
  have GC := Lib.hid gc
  clear oc gc d4 Q1 Q2 Q3
  go_wp2_with fail
  go_ret
  exact ⟨rfl, ⟨_, _, _, k0, GA.out, GB.out, GC.out⟩, ⟨R1.out, R2.out, R3.out⟩⟩

theorem heldMap_any (W H : Int) (t r d : Value) (nt nr nd base : Nat) (w : World) (ho : Marks3 w base t r d nt nr nd) (b1 : nt ≤ 1048576) (b2 : nr ≤ 1048576) (b3 : nd ≤ 1048576) :
    Calls Tryz.prog 26 #[mp W H t r d, .int .i64 1] w fun e w' => e = .returned (.int .i64 (1 + nt + nr + nd)) ∧ Kp w w' := by
  have s0 := new5 w (.int .i64 W) (.int .i64 H) t r d 36
  have O := Lib.hid (ho.keep s0.2.2.2.2.2)
  clear ho
  go_enter Tryz.func26, Tryz.ntmps26
  go_wp2_with fail
  refine (heldIntS_own _ _ base _ _ (by omega) (by omega) b1 O.out.ot).mono ?_
  rintro e1 wa ⟨rfl, ka⟩
  have sa := keep5 ka s0
  have OA := Lib.hid (O.out.keep ka)
  clear s0 O ka
  go_wp2_with fail
  refine (heldIntS_own _ _ base _ _ (by omega) (by omega) b2 OA.out.or).mono ?_
  rintro e2 wb ⟨rfl, kb⟩
  have sb := keep5 kb sa
  have OB := Lib.hid (OA.out.keep kb)
  clear sa OA kb
  go_wp2_with fail
  refine (heldIntS_own _ _ base _ _ (by omega) (by omega) b3 OB.out.od).mono ?_
  rintro e3 wc ⟨rfl, kc⟩
  have sc := keep5 kc sb
  clear sb OB kc
  go_wp2_with fail
  go_ret
  exact ⟨rfl, sc.2.2.2.2.2⟩

end Go.Proofs.YtmolpkjdjkhnpaaGreatDoor

/-
  Worlds that differ in some blocks alone: below a number, and from another one on, all is as it was.
-/
namespace Go.Proofs.YtmolpkjdjkhnpaaGreatDoor
open Go.RowKit

/-- Below lo, and from hi on, all that lay there is as it was. -/
def Mk (lo hi : Nat) (w w' : World) : Prop := Below lo w w' ∧ ∀ b, hi ≤ b → b < w.heap.size → w'.heap[b]? = w.heap[b]?
theorem Mk.refl (lo hi : Nat) (w : World) : Mk lo hi w w := ⟨Below.refl _ _, fun _ _ _ => rfl⟩
theorem Mk.trans {lo hi : Nat} {a b c : World} (h : Mk lo hi a b) (k : Mk lo hi b c) : Mk lo hi a c :=
  ⟨Below.trans h.1 k.1, fun n hn hs => (k.2 n hn (Nat.lt_of_lt_of_le hs h.1.size)).trans (h.2 n hn hs)⟩
theorem Mk.of_kp {lo hi : Nat} {w w' : World} (k : Kp w w') (h : lo ≤ w.heap.size) : Mk lo hi w w' := ⟨Below.mono k h, fun b _ hb => k.block b hb⟩
theorem Mk.set {lo hi : Nat} {a w : World} (h : Mk lo hi a w) {b j : Nat} (h1 : lo ≤ b) (h2 : b < hi) (u : Value) : Mk lo hi a (w.setCell ⟨b, j, none⟩ u) :=
  ⟨Below.setCell h.1 h1 u, fun n hn hs => (Below.heap_setCell w ⟨b, j, none⟩ u n (by simp only; omega)).trans (h.2 n hn hs)⟩
theorem Mk.grown {lo hi : Nat} {a w w' : World} {row : Option Nat} (h : Mk lo hi a w) (g : w.grownBy w' row) (hs : lo ≤ w.heap.size) (hr : ∀ k, row = some k → lo ≤ k ∧ k < hi) : Mk lo hi a w' :=
  ⟨Below.grown h.1 g hs (fun k e => (hr k e).1), fun n hn hz => ((let ⟨_, _, _, _, gb⟩ := g; gb) n (Nat.lt_of_lt_of_le hz h.1.size) (fun e => by have := (hr n e.symm).2; omega)).trans (h.2 n hn hz)⟩
theorem Mk.kp {lo hi : Nat} {w w' W0 : World} (h : Mk lo hi w w') (k : Kp W0 w) (hb : W0.heap.size ≤ lo) : Kp W0 w' := Below.trans k (Below.mono h.1 hb)
theorem Mk.own {lo hi base sz n : Nat} {w w' : World} {e : TypeId} {v : Value} {xs : List Value} (h : Mk lo hi w w') (o : w.ownsRow base e sz v n xs) (hb : ∀ g, v.ownBlock = some g → hi ≤ g) : w'.ownsRow base e sz v n xs := by
  obtain ⟨hl, hv⟩ := o
  refine ⟨hl, ?_⟩
  rcases hv with h0 | ⟨g, cap, cur, rfl, h1, h2, h3⟩
  · exact .inl h0
  · have hg : g < w.heap.size := (Array.getElem?_eq_some_iff.1 h2).1
    exact .inr ⟨g, cap, cur, rfl, h1, by rw [h.2 g (hb g rfl) hg]; exact h2, h3⟩

end Go.Proofs.YtmolpkjdjkhnpaaGreatDoor

/-
  The laws' marking of copied boards: only the copy's own blocks are written, and the number handed back is not less. (What the marks are is not said here.)
-/
namespace Go.Proofs.YtmolpkjdjkhnpaaGreatDoor
open Go.RowKit

set_option maxRecDepth 100000 in
set_option maxHeartbeats 1000000 in
theorem markText_any (k : Nat) (w : World) (hk : k ≤ 1000000000000000) :
    Calls Tryz.prog 80 #[.int .i64 (k : Int)] w fun e w' => ∃ s, e = .returned (.string s) ∧ Kp w w' := by
  by_cases h0 : k = 0
  · subst h0
    go_enter Tryz.func80, Tryz.ntmps80
    go_wp2_with fail
    go_ret
    exact ⟨_, rfl, Kp.refl _⟩
  · have h1 : ¬ (k : Int) ≤ 0 := by omega
    go_enter Tryz.func80, Tryz.ntmps80
    go_wp2_with fail
    go_loopw [0, 3] (fun kk s wr => ∃ (q : Nat) (x : ByteArray), kk = .int .i64 q ∧ s = .string x ∧ q + x.size ≤ k ∧ Kp w wr) (fun kk _ _ => (intOf kk).toNat)
    case atStart => exact ⟨k, ByteArray.empty, rfl, rfl, by simp, Kp.refl _⟩
    case round =>
      obtain ⟨q, x, rfl, rfl, hq, kr⟩ := hrel
      by_cases hq0 : 0 < q
      · have hq1 : (0 : Int) < q := by omega
        have hd1 : 0 ≤ (q : Int) % 10 := by omega
        have hd2 : (q : Int) % 10 ≤ 9 := by omega
        have hconv := run_convert_bytes_arg (P := Tryz.prog) (wr.alloc (.cells #[.int .u8 (48 + (q : Int) % 10)] 5)) 119 5 Tryz.underlying119 Tryz.underlying5 wr.heap.size 0 1 1 [48 + (q : Int) % 10] rfl (fun i hi => by
          obtain rfl : i = 0 := by omega
          simp [go_sem]) 9 Tryz.underlying9
        have hsz := strOfNums_size [48 + (q : Int) % 10]
        generalize strOfNums [48 + (q : Int) % 10] = z at hconv hsz
        go_wp2_with fail
        go_roundw
        case rel => exact ⟨q / 10, _, by go_num, rfl, by simp at hsz ⊢; omega, kr.alloc _⟩
        case measure => simp [intOf]; omega
      · obtain rfl : q = 0 := by omega
        go_wp2_with fail
        go_ret
        exact ⟨_, rfl, kr⟩


theorem live_grown {w w' : World} {base g n sz : Nat} {e : TypeId} {ys : List Value} {cap : Nat} (h : w.ownsRow base e sz (.slice (some ⟨g, 0, none⟩) n cap) n ys) {row : Option Nat} (gr : w.grownBy w' row) (hne : some g ≠ row) : w'.ownsRow base e sz (.slice (some ⟨g, 0, none⟩) n cap) n ys :=
  World.ownsRow.kept h gr (.inr (fun e => hne (by rw [← e]; rfl)))
/-- What the marking of terrains needs of the terrains from the q-th on. -/
def Rest (w : World) (g q : Nat) (l : List Ter) (cs : List (Option Addr × Nat)) (ys : List Value) : Prop :=
  ∀ (j : Nat) (x : Ter) (c : Option Addr × Nat), q ≤ j → l[j]? = some x → cs[j]? = some c → ys[j * 5 + 1]? = some (.slice c.1 x.cost.length c.2) ∧ OwnI w (g + 1) (.slice c.1 x.cost.length c.2) x.cost
theorem OwnI.kp_set {w w1 : World} {base g j : Nat} {v : Value} {l : List Int} (h : OwnI w base v l) (k : Kp w w1) (hg : g < base) (u : Value) : OwnI (w1.setCell ⟨g, j, none⟩ u) base v l := by
  have h1 := h.keep k
  exact h1.far (h1.not hg) u

set_option maxRecDepth 100000 in
set_option maxHeartbeats 4000000 in
theorem markTerrainS_w (g n : Nat) (l : List Ter) (cs : List (Option Addr × Nat)) (ys : List Value) (k0 : Int) (lo hi : Nat) (w : World) (h : OwnT w g n l cs ys) (hl : l.length = n) (hc : cs.length = n) (hn : n ≤ 1048576) (hb : ∀ x ∈ l, x.cost.length ≤ 1048576) (hlo : lo ≤ g) (hg : g < hi)
    (hhi : ∀ (j : Nat) (c : Option Addr × Nat) (x b : Nat), cs[j]? = some c → (Value.slice c.1 x c.2).ownBlock = some b → b < hi) (p0 : 0 ≤ k0) (p1 : k0 ≤ 100000000000000) :
    Calls Tryz.prog 51 #[.slice (some ⟨g, 0, none⟩) n n, .int .i64 k0] w fun e w' => ∃ k', e = .returned (.int .i64 k') ∧ k0 ≤ k' ∧ k' ≤ k0 + 1048580 * (n : Int) ∧ Mk lo hi w w' := by
  have HN := Lib.hid hl
  have HC := Lib.hid hc
  have HB := Lib.hid hb
  have HHI := Lib.hid hhi
  have HAP := Lib.hid h.apart
  have R0 := Lib.hid h.row
  have S0 : Hid (Rest w g 0 l cs ys) := Lib.hid fun j x c _ hx hcj => ⟨(h.here j x c hx hcj).2.1, h.each j x c hx hcj⟩
  have hgw : g < w.heap.size := (World.ownsRow.lt h.row g rfl).2
  clear h hl hc hb hhi
  go_enter Tryz.func51, Tryz.ntmps51
  go_wp2_with fail
  go_loopw [1, 5] (fun kk i wr => ∃ (q : Nat) (k : Int) (ys : List Value), q ≤ n ∧ i = .int .i64 q ∧ kk = .int .i64 k ∧ k0 ≤ k ∧ k ≤ k0 + 1048580 * (q : Int) ∧ Hid (wr.ownsRow g 65 5 (.slice (some ⟨g, 0, none⟩) n n) n ys) ∧ Hid (Rest wr g q l cs ys) ∧ Mk lo hi w wr ∧ w.heap.size ≤ wr.heap.size) (fun _ i _ => n - (intOf i).toNat)
  case atStart => exact ⟨0, _, ys, by omega, rfl, rfl, by omega, by omega, R0, S0, Mk.refl _ _ _, Nat.le_refl _⟩
  case round =>
    clear R0 S0
    obtain ⟨q, k, zs, hq, rfl, rfl, hk0, hk1, HR, HS, mk, hz⟩ := hrel
    by_cases hlt : q < n
    · have hlt' : (q : Int) < n := by omega
      obtain ⟨x, hx⟩ : ∃ x, l[q]? = some x := ⟨l[q]'(by have := HN.out; omega), List.getElem?_eq_getElem _⟩
      obtain ⟨c, hc⟩ : ∃ c, cs[q]? = some c := ⟨cs[q]'(by have := HC.out; omega), List.getElem?_eq_getElem _⟩
      have hnc := HB.out x (List.mem_of_getElem? hx)
      have HX := Lib.hid hx
      have HCC := Lib.hid hc
      have hrq := HS.out q x c (Nat.le_refl _) hx hc
      obtain ⟨Ac, cc⟩ := c
      simp only at hrq
      have HO := Lib.hid hrq.2
      have HY := Lib.hid hrq.1
      have HZ : Hid (zs.length = n * 5) := Lib.hid HR.out.1
      have HBL : Hid (∀ b, (Value.slice Ac x.cost.length cc).ownBlock = some b → g + 1 ≤ b ∧ b < wr.heap.size ∧ b < hi) := Lib.hid fun b hb => ⟨(World.ownsRow.lt HO.out b hb).1, (World.ownsRow.lt HO.out b hb).2, HHI.out q _ _ b hc hb⟩
      obtain ⟨kn, rfl⟩ : ∃ kn : Nat, k = kn := ⟨k.toNat, by omega⟩
      generalize hcl : x.cost.length = nc at HO HY hnc HBL
      have HCL := Lib.hid hcl
      obtain ⟨⟨u0, b0⟩, f0⟩ := liveN HR.out (j := q * 5) (by omega)
      have hgr : g < wr.heap.size := by omega
      clear hx hc hrq hcl
      go_wp2_with fail
      refine (markText_any kn _ (by omega)).mono ?_
      rintro e1 w1 ⟨s, rfl, k1⟩
      have b0' := k1.cell b0
      have R1 := Lib.hid (ownsRow_keep HR.out k1)
      have f0' := (liveN R1.out (j := q * 5) (by omega)).2
      have R2 := Lib.hid (R1.out.stored (q * 5) (.string s)).1
      have O2 : Hid ((w1.setCell ⟨g, q * 5, none⟩ (.string s)).ownsRow (g + 1) 3 1 (.slice Ac nc cc) nc (cellsI x.cost)) := Lib.hid (by
        have := HO.out.kp_set k1 (g := g) (j := q * 5) (by omega) (.string s)
        unfold OwnI at this
        rw [HCL.out] at this
        exact this)
      have c1 : (w1.setCell ⟨g, q * 5, none⟩ (.string s)).cell? ⟨g, q * 5 + 1, none⟩ = some (.slice Ac nc cc) := by
        refine (R2.out.cellAt (q * 5 + 1) (by omega)).trans ?_
        rw [List.getElem?_set_ne (by omega)]
        exact HY.out
      have m1 : Mk lo hi w (w1.setCell ⟨g, q * 5, none⟩ (.string s)) := (mk.trans (Mk.of_kp k1 (by omega))).set hlo hg _
      have hz1 : wr.heap.size ≤ (w1.setCell ⟨g, q * 5, none⟩ (.string s)).heap.size := by have := k1.size; simpa using this
      clear b0 f0 R1
      go_wp2_with fail
      generalize hW : w1.setCell ⟨g, q * 5, none⟩ (.string s) = W1 at *
      refine (markIntS_own _ _ (g + 1) _ _ _ (by omega) (by omega) hnc O2.out).mono ?_
      rintro e2 w2 ⟨rfl, _, g2⟩
      have R3 := Lib.hid (live_grown R2.out g2 (fun e => by have := HBL.out g e.symm; omega))
      have m2 : Mk lo hi w w2 := m1.grown g2 (by omega) (fun b e => by have := HBL.out b e; omega)
      have hz2 : W1.heap.size ≤ w2.heap.size := g2.size
      have S2 : Hid (∀ (j : Nat) (y : Ter) (d : Option Addr × Nat), q + 1 ≤ j → l[j]? = some y → cs[j]? = some d → OwnI w2 (g + 1) (.slice d.1 y.cost.length d.2) y.cost) := Lib.hid fun j y d hj hy hd => by
        have h1 := (HS.out j y d (by omega) hy hd).2
        have h2 : OwnI W1 (g + 1) (.slice d.1 y.cost.length d.2) y.cost := by
          rw [← hW]
          exact h1.kp_set k1 (by omega) _
        refine World.ownsRow.kept h2 g2 ?_
        cases hb : (Value.slice d.1 y.cost.length d.2).ownBlock
        · exact .inl rfl
        · rename_i b
          refine .inr fun e => ?_
          exact HAP.out q j _ d (by omega) HCC.out hd nc y.cost.length b e.symm hb
      obtain ⟨⟨u2, b2⟩, f2⟩ := liveN R3.out (j := q * 5 + 2) (by omega)
      obtain ⟨⟨u3, b3⟩, f3⟩ := liveN R3.out (j := q * 5 + 3) (by omega)
      obtain ⟨⟨u4, b4⟩, f4⟩ := liveN R3.out (j := q * 5 + 4) (by omega)
      have g2s := g2
      clear g2 hW O2 R2 c1 m1 b0' f0' k1
      go_wp2_with fail
      go_roundw
      case rel =>
        refine ⟨q + 1, _, _, by omega, by go_num, rfl, by omega, by omega, Lib.hid (((R3.out.stored (q * 5 + 2) _).1.stored (q * 5 + 3) _).1.stored (q * 5 + 4) _).1, Lib.hid ?_, ((m2.set hlo hg _).set hlo hg _).set hlo hg _, by simp; omega⟩
        intro j y d hj hy hd
        have h1 := (HS.out j y d (by omega) hy hd).1
        refine ⟨?_, ?_⟩
        · rw [List.getElem?_set_ne (by omega), List.getElem?_set_ne (by omega), List.getElem?_set_ne (by omega), List.getElem?_set_ne (by omega)]
          exact h1
        · have h2 := S2.out j y d hj hy hd
          have n1 := h2.not (g := g) (by omega)
          exact ((h2.far n1 _).far n1 _).far n1 _
      case measure => simp [intOf]; omega
    · obtain rfl : q = n := by omega
      go_wp2_with fail
      go_ret
      exact ⟨_, rfl, hk0, hk1, mk⟩

end Go.Proofs.YtmolpkjdjkhnpaaGreatDoor

/-
  The laws' marking of copied kinds, rules, maps and boards: only the copy's own blocks are written, and the number handed back is not less.
-/
namespace Go.Proofs.YtmolpkjdjkhnpaaGreatDoor
open Go.RowKit

set_option maxRecDepth 100000 in
set_option maxHeartbeats 4000000 in
theorem markKindS_w (g n : Nat) (ys : List Value) (k0 : Int) (lo hi : Nat) (w : World) (h : w.ownsRow g 76 6 (.slice (some ⟨g, 0, none⟩) n n) n ys) (hn : n ≤ 1048576) (hlo : lo ≤ g) (hg : g < hi) (p0 : 0 ≤ k0) (p1 : k0 ≤ 200000000000000) :
    Calls Tryz.prog 52 #[.slice (some ⟨g, 0, none⟩) n n, .int .i64 k0] w fun e w' => ∃ k', e = .returned (.int .i64 k') ∧ k0 ≤ k' ∧ k' ≤ k0 + 6 * (n : Int) ∧ Mk lo hi w w' := by
  have R0 := Lib.hid h
  have hgw : g < w.heap.size := (World.ownsRow.lt h g rfl).2
  clear h
  go_enter Tryz.func52, Tryz.ntmps52
  go_wp2_with fail
  go_loopw [1, 5] (fun kk i wr => ∃ (q : Nat) (k : Int) (ys : List Value), q ≤ n ∧ i = .int .i64 q ∧ kk = .int .i64 k ∧ k0 ≤ k ∧ k ≤ k0 + 6 * (q : Int) ∧ Hid (wr.ownsRow g 76 6 (.slice (some ⟨g, 0, none⟩) n n) n ys) ∧ Mk lo hi w wr ∧ w.heap.size ≤ wr.heap.size) (fun _ i _ => n - (intOf i).toNat)
  case atStart => exact ⟨0, _, ys, by omega, rfl, rfl, by omega, by omega, R0, Mk.refl _ _ _, Nat.le_refl _⟩
  case round =>
    clear R0
    obtain ⟨q, k, zs, hq, rfl, rfl, hk0, hk1, HR, mk, hz⟩ := hrel
    by_cases hlt : q < n
    · have hlt' : (q : Int) < n := by omega
      obtain ⟨kn, rfl⟩ : ∃ kn : Nat, k = kn := ⟨k.toNat, by omega⟩
      obtain ⟨⟨u0, b0⟩, f0⟩ := liveN HR.out (j := q * 6) (by omega)
      have hgr : g < wr.heap.size := by omega
      go_wp2_with fail
      refine (markText_any kn _ (by omega)).mono ?_
      rintro e1 w1 ⟨s, rfl, k1⟩
      have R1 := Lib.hid (ownsRow_keep HR.out k1)
      obtain ⟨⟨t0, c0⟩, d0⟩ := liveN R1.out (j := q * 6) (by omega)
      obtain ⟨⟨t1, c1⟩, d1⟩ := liveN R1.out (j := q * 6 + 1) (by omega)
      obtain ⟨⟨t2, c2⟩, d2⟩ := liveN R1.out (j := q * 6 + 2) (by omega)
      obtain ⟨⟨t3, c3⟩, d3⟩ := liveN R1.out (j := q * 6 + 3) (by omega)
      obtain ⟨⟨t4, c4⟩, d4⟩ := liveN R1.out (j := q * 6 + 4) (by omega)
      obtain ⟨⟨t5, c5⟩, d5⟩ := liveN R1.out (j := q * 6 + 5) (by omega)
      have m1 : Mk lo hi w w1 := mk.trans (Mk.of_kp k1 (by omega))
      have hz1 : wr.heap.size ≤ w1.heap.size := k1.size
      clear b0 f0 k1
      go_wp2_with fail
      go_roundw
      case rel =>
        exact ⟨q + 1, _, _, by omega, by go_num, rfl, by omega, by omega, Lib.hid ((((((R1.out.stored (q * 6) _).1.stored (q * 6 + 1) _).1.stored (q * 6 + 2) _).1.stored (q * 6 + 3) _).1.stored (q * 6 + 4) _).1.stored (q * 6 + 5) _).1, (((((m1.set hlo hg _).set hlo hg _).set hlo hg _).set hlo hg _).set hlo hg _).set hlo hg _, by simp; omega⟩
      case measure => simp [intOf]; omega
    · obtain rfl : q = n := by omega
      go_wp2_with fail
      go_ret
      exact ⟨_, rfl, hk0, hk1, mk⟩

theorem Mk.row {lo hi base g n sz : Nat} {w w' : World} {e : TypeId} {cap : Nat} {xs : List Value} (h : Mk lo hi w w') (o : w.ownsRow base e sz (.slice (some ⟨g, 0, none⟩) n cap) n xs) (hb : hi ≤ g) : w'.ownsRow base e sz (.slice (some ⟨g, 0, none⟩) n cap) n xs :=
  h.own o (fun b e => by
    have : g = b := by simpa [Value.ownBlock] using e
    omega)
theorem Mk.cell_hi {lo hi : Nat} {w w' : World} (h : Mk lo hi w w') {b o : Nat} {v : Value} (hb : hi ≤ b) (hc : w.cell? ⟨b, o, none⟩ = some v) : w'.cell? ⟨b, o, none⟩ = some v :=
  (World.cell?_of_block (w := w) (h.2 b hb (cell_lt hc))).trans hc
theorem Mk.wide {lo hi hi' : Nat} {w w' : World} (h : Mk lo hi w w') (hh : hi ≤ hi') : Mk lo hi' w w' := ⟨h.1, fun b hb hs => h.2 b (by omega) hs⟩
theorem OwnR.hi {w : World} {base g1 g2 nt nk : Nat} {l : List Ter} {m : List Knd} {cs : List (Option Addr × Nat)} {ys zs : List Value} (h : OwnR w base g1 g2 nt nk l m cs ys zs) : ∀ (j : Nat) (c : Option Addr × Nat) (x b : Nat), cs[j]? = some c → (Value.slice c.1 x c.2).ownBlock = some b → b < g2 :=
  fun j c x b hc hb => (h.mid j c x b hc hb).2

set_option maxRecDepth 100000 in
set_option maxHeartbeats 4000000 in
theorem markRules_w (base g1 g2 nt nk : Nat) (l : List Ter) (m : List Knd) (cs : List (Option Addr × Nat)) (ys zs : List Value) (a b c d e k0 : Int) (w : World) (h : OwnR w base g1 g2 nt nk l m cs ys zs) (hb1 : nt ≤ 1048576) (hb2 : nk ≤ 1048576) (hb : ∀ x ∈ l, x.cost.length ≤ 1048576) (p0 : 0 ≤ k0) (p1 : k0 ≤ 100000000000000) :
    Calls Tryz.prog 23 #[rv (.slice (some ⟨g1, 0, none⟩) nt nt) (.slice (some ⟨g2, 0, none⟩) nk nk) a b c d e, .int .i64 k0] w fun e' w' => ∃ k', e' = .returned (.int .i64 k') ∧ k0 ≤ k' ∧ k' ≤ k0 + 2000000000000 ∧ Mk base (g2 + 1) w w' := by
  have KA : Kp w (w.alloc (.cells #[.slice (some ⟨g1, 0, none⟩) nt nt, .slice (some ⟨g2, 0, none⟩) nk nk, .int .i64 a, .int .i64 b, .int .i64 c, .int .i64 d, .int .i64 e] 35)) := (Kp.refl w).alloc _
  have q1 : (w.alloc (.cells #[.slice (some ⟨g1, 0, none⟩) nt nt, .slice (some ⟨g2, 0, none⟩) nk nk, .int .i64 a, .int .i64 b, .int .i64 c, .int .i64 d, .int .i64 e] 35)).cell? ⟨w.heap.size, 1, none⟩ = some (.slice (some ⟨g2, 0, none⟩) nk nk) := by simp [go_sem]
  have HO := Lib.hid (h.keep KA)
  have HB := Lib.hid hb
  have x1 := h.b
  have x2 := h.g
  have x3 := h.z
  clear h hb
  go_enter Tryz.func23, Tryz.ntmps23
  go_wp2_with fail
  refine (markTerrainS_w g1 nt l cs ys k0 base g2 _ HO.out.t HO.out.lt HO.out.lc hb1 HB.out x1 x2 HO.out.hi p0 p1).mono ?_
  rintro e1 w1 ⟨k1, rfl, y1, y2, m1⟩
  have q2 := m1.cell_hi (by omega) q1
  have O1 := Lib.hid (m1.row HO.out.k.row (Nat.le_refl _))
  have M1 : Mk base (g2 + 1) w w1 := (Mk.of_kp KA (by omega)).trans (m1.wide (by omega))
  clear q1 m1
  go_wp2_with fail
  refine (markKindS_w g2 nk zs _ base (g2 + 1) _ O1.out hb2 (by omega) (by omega) (by omega) (by omega)).mono ?_
  rintro e2 w2 ⟨k2, rfl, z1, z2, m2⟩
  go_wp2_with fail
  go_ret
  exact ⟨_, rfl, by omega, by omega, M1.trans m2⟩

set_option maxRecDepth 100000 in
set_option maxHeartbeats 4000000 in
theorem markMap_w (W H : Int) (t r d : Value) (lt lr ld : List Int) (nt nr nd base hi : Nat) (k0 : Int) (w : World) (ho : Own3 w base t r d lt lr ld) (h1 : lt.length = nt) (h2 : lr.length = nr) (h3 : ld.length = nd) (b1 : nt ≤ 1048576) (b2 : nr ≤ 1048576) (b3 : nd ≤ 1048576) (hs : base ≤ w.heap.size)
    (hi1 : ∀ g, t.ownBlock = some g → g < hi) (hi2 : ∀ g, r.ownBlock = some g → g < hi) (hi3 : ∀ g, d.ownBlock = some g → g < hi) (p0 : 0 ≤ k0) (p1 : k0 ≤ 500000000000000) :
    Calls Tryz.prog 24 #[mp W H t r d, .int .i64 k0] w fun e w' => e = .returned (.int .i64 (k0 + nt + nr + nd)) ∧ Mk base hi w w' := by
  have o1 : w.ownsRow base 3 1 t nt (cellsI lt) := by rw [← h1]; exact ho.ot
  have o2 : w.ownsRow base 3 1 r nr (cellsI lr) := by rw [← h2]; exact ho.or
  have o3 : w.ownsRow base 3 1 d nd (cellsI ld) := by rw [← h3]; exact ho.od
  have n1 := Lib.hid (ho.ot.block' w.heap.size (Nat.le_refl _))
  have n2 := Lib.hid (ho.or.block' w.heap.size (Nat.le_refl _))
  have AP := Lib.hid (And.intro ho.tr (And.intro ho.td ho.rd))
  have s0 := new5 w (.int .i64 W) (.int .i64 H) t r d 36
  have k0' := s0.2.2.2.2.2
  have O1 := Lib.hid (ownsRow_keep o1 k0')
  have O2 := Lib.hid (ownsRow_keep o2 k0')
  have O3 := Lib.hid (ownsRow_keep o3 k0')
  have I1 : Hid (∀ g, t.ownBlock = some g → base ≤ g ∧ g < hi) := Lib.hid fun g e => ⟨(World.ownsRow.lt o1 g e).1, hi1 g e⟩
  have I2 : Hid (∀ g, r.ownBlock = some g → base ≤ g ∧ g < hi) := Lib.hid fun g e => ⟨(World.ownsRow.lt o2 g e).1, hi2 g e⟩
  have I3 : Hid (∀ g, d.ownBlock = some g → base ≤ g ∧ g < hi) := Lib.hid fun g e => ⟨(World.ownsRow.lt o3 g e).1, hi3 g e⟩
  have m0 : Mk base hi w _ := Mk.of_kp k0' hs
  have hz0 : w.heap.size ≤ _ := k0'.size
  clear ho h1 h2 h3 o1 o2 o3 k0' hi1 hi2 hi3
  go_enter Tryz.func24, Tryz.ntmps24
  go_wp2_with fail
  refine (markIntS_own _ _ base _ _ _ (by omega) (by omega) b1 O1.out).mono ?_
  rintro e1 wa ⟨rfl, oa, ga⟩
  have c3 := ga.cell s0.2.2.2.1 (fun e => n1.out e.symm)
  have c4 := ga.cell s0.2.2.2.2.1 (fun e => n1.out e.symm)
  have P2 := Lib.hid (World.ownsRow.kept O2.out ga (apart_ne AP.out.1))
  have P3 := Lib.hid (World.ownsRow.kept O3.out ga (apart_ne AP.out.2.1))
  have ma := m0.grown ga (by omega) I1.out
  have za := ga.size
  clear oa ga s0 O1 O2 O3 m0
  go_wp2_with fail
  refine (markIntS_own _ _ base _ _ _ (by omega) (by omega) b2 P2.out).mono ?_
  rintro e2 wb ⟨rfl, ob, gb⟩
  have d4 := gb.cell c4 (fun e => n2.out e.symm)
  have Q3 := Lib.hid (World.ownsRow.kept P3.out gb (apart_ne AP.out.2.2))
  have mb := ma.grown gb (by omega) I2.out
  have zb := gb.size
  clear ob gb c3 c4 P2 P3 ma
  go_wp2_with fail
  refine (markIntS_own _ _ base _ _ _ (by omega) (by omega) b3 Q3.out).mono ?_
  rintro e3 wc ⟨rfl, oc, gc⟩
  have mc := mb.grown gc (by omega) I3.out
  clear oc gc d4 Q3 mb
  go_wp2_with fail
  go_ret
  exact ⟨rfl, mc⟩

theorem Own3.marked {w w' : World} {lo hi base : Nat} {t r d : Value} {lt lr ld : List Int} (h : Own3 w base t r d lt lr ld) (m : Mk lo hi w w') (hb : hi ≤ base) : Own3 w' base t r d lt lr ld :=
  ⟨m.own h.ot (fun g e => Nat.le_trans hb (World.ownsRow.lt h.ot g e).1), m.own h.or (fun g e => Nat.le_trans hb (World.ownsRow.lt h.or g e).1), m.own h.od (fun g e => Nat.le_trans hb (World.ownsRow.lt h.od g e).1), h.tr, h.td, h.rd⟩

set_option maxRecDepth 100000 in
set_option maxHeartbeats 4000000 in
theorem markBoard_u (base g1 g2 nt nk : Nat) (l : List Ter) (m : List Knd) (cs : List (Option Addr × Nat)) (ys zs : List Value) (a b c d e W H k0 : Int) (x r y : Value) (lt lr ld : List Int) (w : World) (h : OwnBrd w base g1 g2 nt nk l m cs ys zs x r y lt lr ld) (hb1 : nt ≤ 1048576) (hb2 : nk ≤ 1048576) (hb : ∀ x ∈ l, x.cost.length ≤ 1048576) (hm : mapSm lt lr ld) (hbs : base ≤ w.heap.size) (hi : Nat) (_hh : hi ≤ w.heap.size) (hg : g2 < hi) (i1 : ∀ g, x.ownBlock = some g → g < hi) (i2 : ∀ g, r.ownBlock = some g → g < hi) (i3 : ∀ g, y.ownBlock = some g → g < hi) (p0 : 0 ≤ k0) (p1 : k0 ≤ 100000000000000) :
    Calls Tryz.prog 9 #[bv (.slice (some ⟨g1, 0, none⟩) nt nt) (.slice (some ⟨g2, 0, none⟩) nk nk) a b c d e W H x r y, .int .i64 k0] w fun e' w' => ∃ k', e' = .returned (.int .i64 k') ∧ k0 ≤ k' ∧ k' ≤ k0 + 3000000000000 ∧ Mk base hi w w' := by
  have KA : Kp w (w.alloc (.cells #[.slice (some ⟨g1, 0, none⟩) nt nt, .slice (some ⟨g2, 0, none⟩) nk nk, .int .i64 a, .int .i64 b, .int .i64 c, .int .i64 d, .int .i64 e, .int .i64 W, .int .i64 H, x, r, y] 38)) := (Kp.refl w).alloc _
  have s0 : (w.alloc (.cells #[.slice (some ⟨g1, 0, none⟩) nt nt, .slice (some ⟨g2, 0, none⟩) nk nk, .int .i64 a, .int .i64 b, .int .i64 c, .int .i64 d, .int .i64 e, .int .i64 W, .int .i64 H, x, r, y] 38)).cell? ⟨w.heap.size, 0, none⟩ = some (.slice (some ⟨g1, 0, none⟩) nt nt) ∧ (w.alloc (.cells #[.slice (some ⟨g1, 0, none⟩) nt nt, .slice (some ⟨g2, 0, none⟩) nk nk, .int .i64 a, .int .i64 b, .int .i64 c, .int .i64 d, .int .i64 e, .int .i64 W, .int .i64 H, x, r, y] 38)).cell? ⟨w.heap.size, 1, none⟩ = some (.slice (some ⟨g2, 0, none⟩) nk nk) ∧ (w.alloc (.cells #[.slice (some ⟨g1, 0, none⟩) nt nt, .slice (some ⟨g2, 0, none⟩) nk nk, .int .i64 a, .int .i64 b, .int .i64 c, .int .i64 d, .int .i64 e, .int .i64 W, .int .i64 H, x, r, y] 38)).cell? ⟨w.heap.size, 2, none⟩ = some (.int .i64 a) ∧ (w.alloc (.cells #[.slice (some ⟨g1, 0, none⟩) nt nt, .slice (some ⟨g2, 0, none⟩) nk nk, .int .i64 a, .int .i64 b, .int .i64 c, .int .i64 d, .int .i64 e, .int .i64 W, .int .i64 H, x, r, y] 38)).cell? ⟨w.heap.size, 3, none⟩ = some (.int .i64 b) ∧ (w.alloc (.cells #[.slice (some ⟨g1, 0, none⟩) nt nt, .slice (some ⟨g2, 0, none⟩) nk nk, .int .i64 a, .int .i64 b, .int .i64 c, .int .i64 d, .int .i64 e, .int .i64 W, .int .i64 H, x, r, y] 38)).cell? ⟨w.heap.size, 4, none⟩ = some (.int .i64 c) ∧ (w.alloc (.cells #[.slice (some ⟨g1, 0, none⟩) nt nt, .slice (some ⟨g2, 0, none⟩) nk nk, .int .i64 a, .int .i64 b, .int .i64 c, .int .i64 d, .int .i64 e, .int .i64 W, .int .i64 H, x, r, y] 38)).cell? ⟨w.heap.size, 5, none⟩ = some (.int .i64 d) ∧ (w.alloc (.cells #[.slice (some ⟨g1, 0, none⟩) nt nt, .slice (some ⟨g2, 0, none⟩) nk nk, .int .i64 a, .int .i64 b, .int .i64 c, .int .i64 d, .int .i64 e, .int .i64 W, .int .i64 H, x, r, y] 38)).cell? ⟨w.heap.size, 6, none⟩ = some (.int .i64 e) ∧ (w.alloc (.cells #[.slice (some ⟨g1, 0, none⟩) nt nt, .slice (some ⟨g2, 0, none⟩) nk nk, .int .i64 a, .int .i64 b, .int .i64 c, .int .i64 d, .int .i64 e, .int .i64 W, .int .i64 H, x, r, y] 38)).cell? ⟨w.heap.size, 7, none⟩ = some (.int .i64 W) ∧ (w.alloc (.cells #[.slice (some ⟨g1, 0, none⟩) nt nt, .slice (some ⟨g2, 0, none⟩) nk nk, .int .i64 a, .int .i64 b, .int .i64 c, .int .i64 d, .int .i64 e, .int .i64 W, .int .i64 H, x, r, y] 38)).cell? ⟨w.heap.size, 8, none⟩ = some (.int .i64 H) ∧ (w.alloc (.cells #[.slice (some ⟨g1, 0, none⟩) nt nt, .slice (some ⟨g2, 0, none⟩) nk nk, .int .i64 a, .int .i64 b, .int .i64 c, .int .i64 d, .int .i64 e, .int .i64 W, .int .i64 H, x, r, y] 38)).cell? ⟨w.heap.size, 9, none⟩ = some (x) ∧ (w.alloc (.cells #[.slice (some ⟨g1, 0, none⟩) nt nt, .slice (some ⟨g2, 0, none⟩) nk nk, .int .i64 a, .int .i64 b, .int .i64 c, .int .i64 d, .int .i64 e, .int .i64 W, .int .i64 H, x, r, y] 38)).cell? ⟨w.heap.size, 10, none⟩ = some (r) ∧ (w.alloc (.cells #[.slice (some ⟨g1, 0, none⟩) nt nt, .slice (some ⟨g2, 0, none⟩) nk nk, .int .i64 a, .int .i64 b, .int .i64 c, .int .i64 d, .int .i64 e, .int .i64 W, .int .i64 H, x, r, y] 38)).cell? ⟨w.heap.size, 11, none⟩ = some (y) := ⟨by simp [go_sem], by simp [go_sem], by simp [go_sem], by simp [go_sem], by simp [go_sem], by simp [go_sem], by simp [go_sem], by simp [go_sem], by simp [go_sem], by simp [go_sem], by simp [go_sem], by simp [go_sem]⟩
  have HO := Lib.hid (h.keep KA)
  have HB := Lib.hid hb
  have HM := Lib.hid hm
  have x1 := h.R.b
  have x2 := h.R.g
  have x3 := h.R.z
  have I1 := Lib.hid i1
  have I2 := Lib.hid i2
  have I3 := Lib.hid i3
  have hzA : w.heap.size ≤ _ := KA.size
  clear h hb hm i1 i2 i3
  go_enter Tryz.func9, Tryz.ntmps9
  go_wp2_with fail
  refine (markRules_w base g1 g2 nt nk l m cs ys zs a b c d e k0 _ HO.out.R hb1 hb2 HB.out p0 p1).mono ?_
  rintro e1 w1 ⟨k1, rfl, y1, y2, m1⟩
  have s1 : w1.cell? ⟨w.heap.size, 0, none⟩ = some (.slice (some ⟨g1, 0, none⟩) nt nt) ∧ w1.cell? ⟨w.heap.size, 1, none⟩ = some (.slice (some ⟨g2, 0, none⟩) nk nk) ∧ w1.cell? ⟨w.heap.size, 2, none⟩ = some (.int .i64 a) ∧ w1.cell? ⟨w.heap.size, 3, none⟩ = some (.int .i64 b) ∧ w1.cell? ⟨w.heap.size, 4, none⟩ = some (.int .i64 c) ∧ w1.cell? ⟨w.heap.size, 5, none⟩ = some (.int .i64 d) ∧ w1.cell? ⟨w.heap.size, 6, none⟩ = some (.int .i64 e) ∧ w1.cell? ⟨w.heap.size, 7, none⟩ = some (.int .i64 W) ∧ w1.cell? ⟨w.heap.size, 8, none⟩ = some (.int .i64 H) ∧ w1.cell? ⟨w.heap.size, 9, none⟩ = some (x) ∧ w1.cell? ⟨w.heap.size, 10, none⟩ = some (r) ∧ w1.cell? ⟨w.heap.size, 11, none⟩ = some (y) := ⟨m1.cell_hi (by omega) s0.1, m1.cell_hi (by omega) s0.2.1, m1.cell_hi (by omega) s0.2.2.1, m1.cell_hi (by omega) s0.2.2.2.1, m1.cell_hi (by omega) s0.2.2.2.2.1, m1.cell_hi (by omega) s0.2.2.2.2.2.1, m1.cell_hi (by omega) s0.2.2.2.2.2.2.1, m1.cell_hi (by omega) s0.2.2.2.2.2.2.2.1, m1.cell_hi (by omega) s0.2.2.2.2.2.2.2.2.1, m1.cell_hi (by omega) s0.2.2.2.2.2.2.2.2.2.1, m1.cell_hi (by omega) s0.2.2.2.2.2.2.2.2.2.2.1, m1.cell_hi (by omega) s0.2.2.2.2.2.2.2.2.2.2.2⟩
  have O1 := Lib.hid (HO.out.M.marked m1 (Nat.le_refl _))
  have M1 : Mk base hi w w1 := (Mk.of_kp KA hbs).trans (m1.wide (by omega))
  have hz1 := m1.1.size
  clear s0 m1
  go_wp2_with fail
  refine (markMap_w W H x r y lt lr ld _ _ _ (g2 + 1) hi k1 _ O1.out rfl rfl rfl HM.out.1 HM.out.2.1 HM.out.2.2 (by omega) I1.out I2.out I3.out (by omega) (by omega)).mono ?_
  rintro e2 w2 ⟨rfl, m2⟩
  go_wp2_with fail
  go_ret
  exact ⟨_, rfl, by omega, by have h1 := HM.out.1; have h2 := HM.out.2.1; have h3 := HM.out.2.2; omega, M1.trans ⟨Below.mono m2.1 (by omega), m2.2⟩⟩
theorem markBoard_w (base g1 g2 nt nk : Nat) (l : List Ter) (m : List Knd) (cs : List (Option Addr × Nat)) (ys zs : List Value) (a b c d e W H k0 : Int) (x r y : Value) (lt lr ld : List Int) (w : World) (h : OwnBrd w base g1 g2 nt nk l m cs ys zs x r y lt lr ld) (hb1 : nt ≤ 1048576) (hb2 : nk ≤ 1048576) (hb : ∀ x ∈ l, x.cost.length ≤ 1048576) (hm : mapSm lt lr ld) (hbs : base ≤ w.heap.size) (hi : Nat) (_hh : hi ≤ w.heap.size) (hg : g2 < hi) (i1 : ∀ g, x.ownBlock = some g → g < hi) (i2 : ∀ g, r.ownBlock = some g → g < hi) (i3 : ∀ g, y.ownBlock = some g → g < hi) (p0 : 0 ≤ k0) (p1 : k0 ≤ 100000000000000) :
    Calls Tryz.prog 9 #[bv (.slice (some ⟨g1, 0, none⟩) nt nt) (.slice (some ⟨g2, 0, none⟩) nk nk) a b c d e W H x r y, .int .i64 k0] w fun e' w' => ∃ k', e' = .returned (.int .i64 k') ∧ k0 ≤ k' ∧ Mk base hi w w' :=
  (markBoard_u base g1 g2 nt nk l m cs ys zs a b c d e W H k0 x r y lt lr ld w h hb1 hb2 hb hm hbs hi _hh hg i1 i2 i3 p0 p1).mono fun _ _ ⟨k', h1, h2, _, h4⟩ => ⟨k', h1, h2, h4⟩

end Go.Proofs.YtmolpkjdjkhnpaaGreatDoor

/-
  What the rows' lists say of the ranges and of the table of directions, cell by cell; a world for the witness in which they lie.
-/
namespace Go.Proofs.YtmolpkjdjkhnpaaGreatDoor
open Go.ChangeShapes Go.WideShapes Go.ChangeAt Go.RowKit Go.Joins

theorem terrainsG : Tryz.prog.globalNamed "loop.example/g00886/impl.terrainsSpan" = some 0 := by kernel_rfl
theorem terrainsTy : (Tryz.prog.globals[0]?).map (·.type) = some 109 := by kernel_rfl
theorem costG : Tryz.prog.globalNamed "loop.example/g00886/impl.costSpan" = some 7 := by kernel_rfl
theorem costTy : (Tryz.prog.globals[7]?).map (·.type) = some 109 := by kernel_rfl
theorem shiftG : Tryz.prog.globalNamed "loop.example/g00886/impl.shiftSpan" = some 8 := by kernel_rfl
theorem shiftTy : (Tryz.prog.globals[8]?).map (·.type) = some 109 := by kernel_rfl
theorem heightG : Tryz.prog.globalNamed "loop.example/g00886/impl.heightSpan" = some 9 := by kernel_rfl
theorem heightTy : (Tryz.prog.globals[9]?).map (·.type) = some 109 := by kernel_rfl
theorem kindsG : Tryz.prog.globalNamed "loop.example/g00886/impl.kindsSpan" = some 1 := by kernel_rfl
theorem kindsTy : (Tryz.prog.globals[1]?).map (·.type) = some 109 := by kernel_rfl
theorem strengthG : Tryz.prog.globalNamed "loop.example/g00886/impl.strengthSpan" = some 10 := by kernel_rfl
theorem strengthTy : (Tryz.prog.globals[10]?).map (·.type) = some 109 := by kernel_rfl
theorem movesG : Tryz.prog.globalNamed "loop.example/g00886/impl.movesSpan" = some 11 := by kernel_rfl
theorem movesTy : (Tryz.prog.globals[11]?).map (·.type) = some 109 := by kernel_rfl
theorem stepsG : Tryz.prog.globalNamed "loop.example/g00886/impl.stepsSpan" = some 12 := by kernel_rfl
theorem stepsTy : (Tryz.prog.globals[12]?).map (·.type) = some 109 := by kernel_rfl
theorem viewG : Tryz.prog.globalNamed "loop.example/g00886/impl.viewSpan" = some 13 := by kernel_rfl
theorem viewTy : (Tryz.prog.globals[13]?).map (·.type) = some 109 := by kernel_rfl
theorem stackG : Tryz.prog.globalNamed "loop.example/g00886/impl.stackSpan" = some 2 := by kernel_rfl
theorem stackTy : (Tryz.prog.globals[2]?).map (·.type) = some 109 := by kernel_rfl
theorem riverG : Tryz.prog.globalNamed "loop.example/g00886/impl.riverSpan" = some 3 := by kernel_rfl
theorem riverTy : (Tryz.prog.globals[3]?).map (·.type) = some 109 := by kernel_rfl
theorem roadG : Tryz.prog.globalNamed "loop.example/g00886/impl.roadSpan" = some 4 := by kernel_rfl
theorem roadTy : (Tryz.prog.globals[4]?).map (·.type) = some 109 := by kernel_rfl
theorem supplyG : Tryz.prog.globalNamed "loop.example/g00886/impl.supplySpan" = some 5 := by kernel_rfl
theorem supplyTy : (Tryz.prog.globals[5]?).map (·.type) = some 109 := by kernel_rfl
theorem turnsG : Tryz.prog.globalNamed "loop.example/g00886/impl.turnsSpan" = some 6 := by kernel_rfl
theorem turnsTy : (Tryz.prog.globals[6]?).map (·.type) = some 109 := by kernel_rfl

theorem spans14 {W : World} (h : laidMetH Tryz.prog [("loop.example/g00886/impl.terrainsSpan", Rows.laid_loop_example_g00886_impl_terrainsSpan), ("loop.example/g00886/impl.costSpan", Rows.laid_loop_example_g00886_impl_costSpan), ("loop.example/g00886/impl.shiftSpan", Rows.laid_loop_example_g00886_impl_shiftSpan), ("loop.example/g00886/impl.heightSpan", Rows.laid_loop_example_g00886_impl_heightSpan), ("loop.example/g00886/impl.kindsSpan", Rows.laid_loop_example_g00886_impl_kindsSpan), ("loop.example/g00886/impl.strengthSpan", Rows.laid_loop_example_g00886_impl_strengthSpan), ("loop.example/g00886/impl.movesSpan", Rows.laid_loop_example_g00886_impl_movesSpan), ("loop.example/g00886/impl.stepsSpan", Rows.laid_loop_example_g00886_impl_stepsSpan), ("loop.example/g00886/impl.viewSpan", Rows.laid_loop_example_g00886_impl_viewSpan), ("loop.example/g00886/impl.stackSpan", Rows.laid_loop_example_g00886_impl_stackSpan), ("loop.example/g00886/impl.riverSpan", Rows.laid_loop_example_g00886_impl_riverSpan), ("loop.example/g00886/impl.roadSpan", Rows.laid_loop_example_g00886_impl_roadSpan), ("loop.example/g00886/impl.supplySpan", Rows.laid_loop_example_g00886_impl_supplySpan), ("loop.example/g00886/impl.turnsSpan", Rows.laid_loop_example_g00886_impl_turnsSpan)] W) : Spans W := by
  have h' : laidMet Tryz.prog [("loop.example/g00886/impl.terrainsSpan", Rows.laid_loop_example_g00886_impl_terrainsSpan), ("loop.example/g00886/impl.costSpan", Rows.laid_loop_example_g00886_impl_costSpan), ("loop.example/g00886/impl.shiftSpan", Rows.laid_loop_example_g00886_impl_shiftSpan), ("loop.example/g00886/impl.heightSpan", Rows.laid_loop_example_g00886_impl_heightSpan), ("loop.example/g00886/impl.kindsSpan", Rows.laid_loop_example_g00886_impl_kindsSpan), ("loop.example/g00886/impl.strengthSpan", Rows.laid_loop_example_g00886_impl_strengthSpan), ("loop.example/g00886/impl.movesSpan", Rows.laid_loop_example_g00886_impl_movesSpan), ("loop.example/g00886/impl.stepsSpan", Rows.laid_loop_example_g00886_impl_stepsSpan), ("loop.example/g00886/impl.viewSpan", Rows.laid_loop_example_g00886_impl_viewSpan), ("loop.example/g00886/impl.stackSpan", Rows.laid_loop_example_g00886_impl_stackSpan), ("loop.example/g00886/impl.riverSpan", Rows.laid_loop_example_g00886_impl_riverSpan), ("loop.example/g00886/impl.roadSpan", Rows.laid_loop_example_g00886_impl_roadSpan), ("loop.example/g00886/impl.supplySpan", Rows.laid_loop_example_g00886_impl_supplySpan), ("loop.example/g00886/impl.turnsSpan", Rows.laid_loop_example_g00886_impl_turnsSpan)] W := h
  obtain ⟨ps, hl, _⟩ := h'
  exact ⟨span_of terrainsG terrainsTy (laid_one hl (.head _)), span_of costG costTy (laid_one hl (.tail _ (.head _))), span_of shiftG shiftTy (laid_one hl (.tail _ (.tail _ (.head _)))), span_of heightG heightTy (laid_one hl (.tail _ (.tail _ (.tail _ (.head _))))), span_of kindsG kindsTy (laid_one hl (.tail _ (.tail _ (.tail _ (.tail _ (.head _)))))), span_of strengthG strengthTy (laid_one hl (.tail _ (.tail _ (.tail _ (.tail _ (.tail _ (.head _))))))), span_of movesG movesTy (laid_one hl (.tail _ (.tail _ (.tail _ (.tail _ (.tail _ (.tail _ (.head _)))))))), span_of stepsG stepsTy (laid_one hl (.tail _ (.tail _ (.tail _ (.tail _ (.tail _ (.tail _ (.tail _ (.head _))))))))), span_of viewG viewTy (laid_one hl (.tail _ (.tail _ (.tail _ (.tail _ (.tail _ (.tail _ (.tail _ (.tail _ (.head _)))))))))), span_of stackG stackTy (laid_one hl (.tail _ (.tail _ (.tail _ (.tail _ (.tail _ (.tail _ (.tail _ (.tail _ (.tail _ (.head _))))))))))), span_of riverG riverTy (laid_one hl (.tail _ (.tail _ (.tail _ (.tail _ (.tail _ (.tail _ (.tail _ (.tail _ (.tail _ (.tail _ (.head _)))))))))))), span_of roadG roadTy (laid_one hl (.tail _ (.tail _ (.tail _ (.tail _ (.tail _ (.tail _ (.tail _ (.tail _ (.tail _ (.tail _ (.tail _ (.head _))))))))))))), span_of supplyG supplyTy (laid_one hl (.tail _ (.tail _ (.tail _ (.tail _ (.tail _ (.tail _ (.tail _ (.tail _ (.tail _ (.tail _ (.tail _ (.tail _ (.head _)))))))))))))), span_of turnsG turnsTy (laid_one hl (.tail _ (.tail _ (.tail _ (.tail _ (.tail _ (.tail _ (.tail _ (.tail _ (.tail _ (.tail _ (.tail _ (.tail _ (.tail _ (.head _)))))))))))))))⟩

theorem spans15 {W : World} (h : laidMetH Tryz.prog [("loop.example/g00886/impl.directionSteps", Rows.laid_loop_example_g00886_impl_directionSteps), ("loop.example/g00886/impl.terrainsSpan", Rows.laid_loop_example_g00886_impl_terrainsSpan), ("loop.example/g00886/impl.costSpan", Rows.laid_loop_example_g00886_impl_costSpan), ("loop.example/g00886/impl.shiftSpan", Rows.laid_loop_example_g00886_impl_shiftSpan), ("loop.example/g00886/impl.heightSpan", Rows.laid_loop_example_g00886_impl_heightSpan), ("loop.example/g00886/impl.kindsSpan", Rows.laid_loop_example_g00886_impl_kindsSpan), ("loop.example/g00886/impl.strengthSpan", Rows.laid_loop_example_g00886_impl_strengthSpan), ("loop.example/g00886/impl.movesSpan", Rows.laid_loop_example_g00886_impl_movesSpan), ("loop.example/g00886/impl.stepsSpan", Rows.laid_loop_example_g00886_impl_stepsSpan), ("loop.example/g00886/impl.viewSpan", Rows.laid_loop_example_g00886_impl_viewSpan), ("loop.example/g00886/impl.stackSpan", Rows.laid_loop_example_g00886_impl_stackSpan), ("loop.example/g00886/impl.riverSpan", Rows.laid_loop_example_g00886_impl_riverSpan), ("loop.example/g00886/impl.roadSpan", Rows.laid_loop_example_g00886_impl_roadSpan), ("loop.example/g00886/impl.supplySpan", Rows.laid_loop_example_g00886_impl_supplySpan), ("loop.example/g00886/impl.turnsSpan", Rows.laid_loop_example_g00886_impl_turnsSpan)] W) : Spans W := by
  have h' : laidMet Tryz.prog [("loop.example/g00886/impl.directionSteps", Rows.laid_loop_example_g00886_impl_directionSteps), ("loop.example/g00886/impl.terrainsSpan", Rows.laid_loop_example_g00886_impl_terrainsSpan), ("loop.example/g00886/impl.costSpan", Rows.laid_loop_example_g00886_impl_costSpan), ("loop.example/g00886/impl.shiftSpan", Rows.laid_loop_example_g00886_impl_shiftSpan), ("loop.example/g00886/impl.heightSpan", Rows.laid_loop_example_g00886_impl_heightSpan), ("loop.example/g00886/impl.kindsSpan", Rows.laid_loop_example_g00886_impl_kindsSpan), ("loop.example/g00886/impl.strengthSpan", Rows.laid_loop_example_g00886_impl_strengthSpan), ("loop.example/g00886/impl.movesSpan", Rows.laid_loop_example_g00886_impl_movesSpan), ("loop.example/g00886/impl.stepsSpan", Rows.laid_loop_example_g00886_impl_stepsSpan), ("loop.example/g00886/impl.viewSpan", Rows.laid_loop_example_g00886_impl_viewSpan), ("loop.example/g00886/impl.stackSpan", Rows.laid_loop_example_g00886_impl_stackSpan), ("loop.example/g00886/impl.riverSpan", Rows.laid_loop_example_g00886_impl_riverSpan), ("loop.example/g00886/impl.roadSpan", Rows.laid_loop_example_g00886_impl_roadSpan), ("loop.example/g00886/impl.supplySpan", Rows.laid_loop_example_g00886_impl_supplySpan), ("loop.example/g00886/impl.turnsSpan", Rows.laid_loop_example_g00886_impl_turnsSpan)] W := h
  obtain ⟨ps, hl, _⟩ := h'
  exact ⟨span_of terrainsG terrainsTy (laid_one hl (.tail _ (.head _))), span_of costG costTy (laid_one hl (.tail _ (.tail _ (.head _)))), span_of shiftG shiftTy (laid_one hl (.tail _ (.tail _ (.tail _ (.head _))))), span_of heightG heightTy (laid_one hl (.tail _ (.tail _ (.tail _ (.tail _ (.head _)))))), span_of kindsG kindsTy (laid_one hl (.tail _ (.tail _ (.tail _ (.tail _ (.tail _ (.head _))))))), span_of strengthG strengthTy (laid_one hl (.tail _ (.tail _ (.tail _ (.tail _ (.tail _ (.tail _ (.head _)))))))), span_of movesG movesTy (laid_one hl (.tail _ (.tail _ (.tail _ (.tail _ (.tail _ (.tail _ (.tail _ (.head _))))))))), span_of stepsG stepsTy (laid_one hl (.tail _ (.tail _ (.tail _ (.tail _ (.tail _ (.tail _ (.tail _ (.tail _ (.head _)))))))))), span_of viewG viewTy (laid_one hl (.tail _ (.tail _ (.tail _ (.tail _ (.tail _ (.tail _ (.tail _ (.tail _ (.tail _ (.head _))))))))))), span_of stackG stackTy (laid_one hl (.tail _ (.tail _ (.tail _ (.tail _ (.tail _ (.tail _ (.tail _ (.tail _ (.tail _ (.tail _ (.head _)))))))))))), span_of riverG riverTy (laid_one hl (.tail _ (.tail _ (.tail _ (.tail _ (.tail _ (.tail _ (.tail _ (.tail _ (.tail _ (.tail _ (.tail _ (.head _))))))))))))), span_of roadG roadTy (laid_one hl (.tail _ (.tail _ (.tail _ (.tail _ (.tail _ (.tail _ (.tail _ (.tail _ (.tail _ (.tail _ (.tail _ (.tail _ (.head _)))))))))))))), span_of supplyG supplyTy (laid_one hl (.tail _ (.tail _ (.tail _ (.tail _ (.tail _ (.tail _ (.tail _ (.tail _ (.tail _ (.tail _ (.tail _ (.tail _ (.tail _ (.head _))))))))))))))), span_of turnsG turnsTy (laid_one hl (.tail _ (.tail _ (.tail _ (.tail _ (.tail _ (.tail _ (.tail _ (.tail _ (.tail _ (.tail _ (.tail _ (.tail _ (.tail _ (.tail _ (.head _))))))))))))))))⟩

theorem tab15 {W : World} (h : laidMetH Tryz.prog [("loop.example/g00886/impl.directionSteps", Rows.laid_loop_example_g00886_impl_directionSteps), ("loop.example/g00886/impl.terrainsSpan", Rows.laid_loop_example_g00886_impl_terrainsSpan), ("loop.example/g00886/impl.costSpan", Rows.laid_loop_example_g00886_impl_costSpan), ("loop.example/g00886/impl.shiftSpan", Rows.laid_loop_example_g00886_impl_shiftSpan), ("loop.example/g00886/impl.heightSpan", Rows.laid_loop_example_g00886_impl_heightSpan), ("loop.example/g00886/impl.kindsSpan", Rows.laid_loop_example_g00886_impl_kindsSpan), ("loop.example/g00886/impl.strengthSpan", Rows.laid_loop_example_g00886_impl_strengthSpan), ("loop.example/g00886/impl.movesSpan", Rows.laid_loop_example_g00886_impl_movesSpan), ("loop.example/g00886/impl.stepsSpan", Rows.laid_loop_example_g00886_impl_stepsSpan), ("loop.example/g00886/impl.viewSpan", Rows.laid_loop_example_g00886_impl_viewSpan), ("loop.example/g00886/impl.stackSpan", Rows.laid_loop_example_g00886_impl_stackSpan), ("loop.example/g00886/impl.riverSpan", Rows.laid_loop_example_g00886_impl_riverSpan), ("loop.example/g00886/impl.roadSpan", Rows.laid_loop_example_g00886_impl_roadSpan), ("loop.example/g00886/impl.supplySpan", Rows.laid_loop_example_g00886_impl_supplySpan), ("loop.example/g00886/impl.turnsSpan", Rows.laid_loop_example_g00886_impl_turnsSpan)] W) : Tab W := by
  have h' : laidMet Tryz.prog [("loop.example/g00886/impl.directionSteps", Rows.laid_loop_example_g00886_impl_directionSteps), ("loop.example/g00886/impl.terrainsSpan", Rows.laid_loop_example_g00886_impl_terrainsSpan), ("loop.example/g00886/impl.costSpan", Rows.laid_loop_example_g00886_impl_costSpan), ("loop.example/g00886/impl.shiftSpan", Rows.laid_loop_example_g00886_impl_shiftSpan), ("loop.example/g00886/impl.heightSpan", Rows.laid_loop_example_g00886_impl_heightSpan), ("loop.example/g00886/impl.kindsSpan", Rows.laid_loop_example_g00886_impl_kindsSpan), ("loop.example/g00886/impl.strengthSpan", Rows.laid_loop_example_g00886_impl_strengthSpan), ("loop.example/g00886/impl.movesSpan", Rows.laid_loop_example_g00886_impl_movesSpan), ("loop.example/g00886/impl.stepsSpan", Rows.laid_loop_example_g00886_impl_stepsSpan), ("loop.example/g00886/impl.viewSpan", Rows.laid_loop_example_g00886_impl_viewSpan), ("loop.example/g00886/impl.stackSpan", Rows.laid_loop_example_g00886_impl_stackSpan), ("loop.example/g00886/impl.riverSpan", Rows.laid_loop_example_g00886_impl_riverSpan), ("loop.example/g00886/impl.roadSpan", Rows.laid_loop_example_g00886_impl_roadSpan), ("loop.example/g00886/impl.supplySpan", Rows.laid_loop_example_g00886_impl_supplySpan), ("loop.example/g00886/impl.turnsSpan", Rows.laid_loop_example_g00886_impl_turnsSpan)] W := h
  obtain ⟨ps, ⟨g, t, cs, fuel, p, q, h1, h2, h3, h4, _, _⟩, _⟩ := h'
  exact tab_of_laid1 ⟨g, t, cs, fuel, p, h1, h2, h3, h4⟩

noncomputable def laidWorldS (os : Os) : World :=
  setVar (setVar (setVar (setVar (setVar (setVar (setVar (setVar (setVar (setVar (setVar (setVar (setVar (setVar (laidWorld os) 0 #[.int .i64 1, .int .i64 6]) 7 #[.int .i64 0, .int .i64 9]) 8 #[.int .i64 (-3), .int .i64 3]) 9 #[.int .i64 0, .int .i64 3]) 1 #[.int .i64 1, .int .i64 4]) 10 #[.int .i64 1, .int .i64 9]) 11 #[.int .i64 0, .int .i64 9]) 12 #[.int .i64 1, .int .i64 4]) 13 #[.int .i64 0, .int .i64 4]) 2 #[.int .i64 1, .int .i64 4]) 3 #[.int .i64 0, .int .i64 9]) 4 #[.int .i64 1, .int .i64 9]) 5 #[.int .i64 0, .int .i64 20]) 6 #[.int .i64 1, .int .i64 30]

theorem len14 {α : Type} {l : List α} (h : l.length = 14) : ∃ x0 x1 x2 x3 x4 x5 x6 x7 x8 x9 x10 x11 x12 x13, l = [x0, x1, x2, x3, x4, x5, x6, x7, x8, x9, x10, x11, x12, x13] := by
  match l, h with
  | [x0, x1, x2, x3, x4, x5, x6, x7, x8, x9, x10, x11, x12, x13], _ => exact ⟨_, _, _, _, _, _, _, _, _, _, _, _, _, _, rfl⟩
theorem len15 {α : Type} {l : List α} (h : l.length = 15) : ∃ x0 x1 x2 x3 x4 x5 x6 x7 x8 x9 x10 x11 x12 x13 x14, l = [x0, x1, x2, x3, x4, x5, x6, x7, x8, x9, x10, x11, x12, x13, x14] := by
  match l, h with
  | [x0, x1, x2, x3, x4, x5, x6, x7, x8, x9, x10, x11, x12, x13, x14], _ => exact ⟨_, _, _, _, _, _, _, _, _, _, _, _, _, _, _, rfl⟩

end Go.Proofs.YtmolpkjdjkhnpaaGreatDoor

/-
  The laws' marks of terrains and kinds: what the cells hold behind them, and that they are found again.
-/
namespace Go.Proofs.YtmolpkjdjkhnpaaGreatDoor
open Go.RowKit

/-- The text of a mark. -/
def mtGo (q : Nat) (x : ByteArray) : ByteArray := if _h : q = 0 then x else mtGo (q / 10) (strOfNums [48 + (q : Int) % 10] ++ x)
termination_by q
decreasing_by omega
theorem mtGo_zero (x : ByteArray) : mtGo 0 x = x := by rw [mtGo, dif_pos rfl]
theorem mtGo_more {q : Nat} (x : ByteArray) (h : 0 < q) : mtGo (q / 10) (strOfNums [48 + (q : Int) % 10] ++ x) = mtGo q x := by rw [mtGo.eq_1 q, dif_neg (by omega)]
def mtx (k : Nat) : ByteArray := if k = 0 then ⟨#[109, 48]⟩ else ⟨#[109]⟩ ++ mtGo k ByteArray.empty

set_option maxRecDepth 100000 in
set_option maxHeartbeats 1000000 in
theorem markText_mtx (k : Nat) (w : World) (hk : k ≤ 1000000000000000) :
    Calls Tryz.prog 80 #[.int .i64 (k : Int)] w fun e w' => e = .returned (.string (mtx k)) ∧ Kp w w' := by
  by_cases h0 : k = 0
  · subst h0
    go_enter Tryz.func80, Tryz.ntmps80
    go_wp2_with fail
    go_ret
    exact ⟨rfl, Kp.refl _⟩
  · have h1 : ¬ (k : Int) ≤ 0 := by omega
    have HX := Lib.hid (show mtx k = ⟨#[109]⟩ ++ mtGo k ByteArray.empty from if_neg h0)
    go_enter Tryz.func80, Tryz.ntmps80
    go_wp2_with fail
    go_loopw [0, 3] (fun kk s wr => ∃ (q : Nat) (x : ByteArray), kk = .int .i64 q ∧ s = .string x ∧ q + x.size ≤ k ∧ Hid (mtGo q x = mtGo k ByteArray.empty) ∧ Kp w wr) (fun kk _ _ => (intOf kk).toNat)
    case atStart => exact ⟨k, ByteArray.empty, rfl, rfl, by simp, Lib.hid rfl, Kp.refl _⟩
    case round =>
      obtain ⟨q, x, rfl, rfl, hq, HM, kr⟩ := hrel
      by_cases hq0 : 0 < q
      · have hq1 : (0 : Int) < q := by omega
        have hd1 : 0 ≤ (q : Int) % 10 := by omega
        have hd2 : (q : Int) % 10 ≤ 9 := by omega
        have HM2 := Lib.hid ((mtGo_more x hq0).trans HM.out)
        have hconv := run_convert_bytes_arg (P := Tryz.prog) (wr.alloc (.cells #[.int .u8 (48 + (q : Int) % 10)] 5)) 119 5 Tryz.underlying119 Tryz.underlying5 wr.heap.size 0 1 1 [48 + (q : Int) % 10] rfl (fun i hi => by
          obtain rfl : i = 0 := by omega
          simp [go_sem]) 9 Tryz.underlying9
        have hsz := strOfNums_size [48 + (q : Int) % 10]
        generalize strOfNums [48 + (q : Int) % 10] = z at hconv hsz HM2
        clear HM
        go_wp2_with fail
        go_roundw
        case rel => exact ⟨q / 10, _, by go_num, rfl, by simp at hsz ⊢; omega, HM2, kr.alloc _⟩
        case measure => simp [intOf]; omega
      · obtain rfl : q = 0 := by omega
        have HE := Lib.hid (HX.out.trans (congrArg (ByteArray.mk #[109] ++ ·) ((HM.out.symm).trans (mtGo_zero x))))
        clear HM
        go_wp2_with fail
        go_ret
        exact ⟨by rw [HE.out]; rfl, kr⟩

/-- Marks of integers. -/
def marksI (k : Int) (n : Nat) : List Int := (List.range n).map fun j : Nat => k + (j : Int)
theorem marksI_len (k : Int) (n : Nat) : (marksI k n).length = n := by simp [marksI]
theorem marksI_cells (k : Int) (n : Nat) : cellsI (marksI k n) = marks k n := by simp [marksI, marks, cellsI]
theorem marksI_at (k : Int) {n j : Nat} (h : j < n) : (marksI k n)[j]? = some (k + j) := by simp [marksI, h]

set_option maxRecDepth 100000 in
theorem heldIntS_rd (v : Value) (n : Nat) (k0 : Int) (w : World) (h0 : 0 ≤ k0) (h1 : k0 ≤ 1000000000000000) (hn : n ≤ 1048576) (hr : RdI w v (marksI k0 n)) :
    Calls Tryz.prog 56 #[v, .int .i64 k0] w fun e w' => e = .returned (.int .i64 (k0 + n)) ∧ Kp w w' := by
  obtain ⟨A, c, rfl, hA⟩ := hr
  rw [marksI_len] at hA ⊢
  have HA := Lib.hid hA
  clear hA
  go_enter Tryz.func56, Tryz.ntmps56
  go_wp2_with fail
  go_loopw [1, 5] (fun kk i wr => ∃ t : Nat, t ≤ n ∧ i = .int .i64 t ∧ kk = .int .i64 (k0 + t) ∧ Kp w wr) (fun _ i _ => n - (intOf i).toNat)
  case atStart => exact ⟨0, by omega, rfl, by simp, Kp.refl _⟩
  case round =>
    obtain ⟨t, ht, rfl, rfl, kr⟩ := hrel
    by_cases hlt : t < n
    · have hlt' : (t : Int) < n := by omega
      obtain ⟨g, off, rfl, hc⟩ := HA.out (by omega)
      have c0 := kr.cell (hc t _ (marksI_at k0 hlt))
      have hne : ((k0 + (t : Int)) != (k0 + (t : Int))) = false := by simp
      clear hc
      go_wp2_with fail
      go_roundw
      case rel => exact ⟨t + 1, by omega, by go_num, by go_num, kr⟩
      case measure => simp [intOf]; omega
    · obtain rfl : t = n := by omega
      go_wp2_with fail
      go_ret
      exact ⟨rfl, kr⟩

/-- A marked terrain, marked terrains, how many marks they take. -/
def mkT (k : Int) (x : Ter) : Ter := ⟨mtx k.toNat, marksI (k + 1) x.cost.length, k + 1 + x.cost.length, k + 1 + x.cost.length + 1, (k + 1 + x.cost.length + 1 + 1) % 3 == 0⟩
def cntT : List Ter → Int
  | [] => 0
  | x :: l => 4 + (x.cost.length : Int) + cntT l
def mkTs : Int → List Ter → List Ter
  | _, [] => []
  | k, x :: l => mkT k x :: mkTs (k + (4 + (x.cost.length : Int))) l
theorem cntT_snoc (x : Ter) : ∀ l : List Ter, cntT (l ++ [x]) = cntT l + (4 + (x.cost.length : Int))
  | [] => by simp [cntT]
  | y :: l => by
    have := cntT_snoc x l
    simp only [List.cons_append, cntT]
    omega
theorem mkTs_snoc (x : Ter) : ∀ (l : List Ter) (k : Int), mkTs k (l ++ [x]) = mkTs k l ++ [mkT (k + cntT l) x]
  | [], k => by simp [mkTs, cntT]
  | y :: l, k => by
    rw [List.cons_append, mkTs, mkTs, mkTs_snoc x l, List.cons_append, cntT]
    congr 4
    omega
theorem mkTs_len : ∀ (l : List Ter) (k : Int), (mkTs k l).length = l.length
  | [], _ => rfl
  | y :: l, k => by rw [mkTs, List.length_cons, List.length_cons, mkTs_len l]
theorem cntT_bound (l : List Ter) (h : ∀ x ∈ l, x.cost.length ≤ 1048576) : 0 ≤ cntT l ∧ cntT l ≤ 1048580 * (l.length : Int) := by
  induction l with
  | nil => simp [cntT]
  | cons x l ih =>
    have a := ih (fun y hy => h y (List.mem_cons_of_mem _ hy))
    have b := h x (List.mem_cons_self ..)
    simp only [cntT, List.length_cons]
    omega
theorem cntT_more {l : List Ter} {q : Nat} {x : Ter} (h : l[q]? = some x) : cntT (l.take (q + 1)) = cntT (l.take q) + (4 + (x.cost.length : Int)) := by
  rw [List.take_add_one, h]
  exact cntT_snoc x _
theorem mkTs_at {l : List Ter} {q : Nat} {x : Ter} (h : l[q]? = some x) (k : Int) : (mkTs k l)[q]? = some (mkT (k + cntT (l.take q)) x) := by
  have hq := lt_of_at h
  have e : l = l.take q ++ (x :: l.drop (q + 1)) := by
    rw [← dropA h, List.take_append_drop]
  have m : ∀ (a b : List Ter) (k : Int), mkTs k (a ++ b) = mkTs k a ++ mkTs (k + cntT a) b := by
    intro a
    induction a with
    | nil => intro b k; simp [mkTs, cntT]
    | cons y a ih =>
      intro b k
      rw [List.cons_append, mkTs, mkTs, ih, List.cons_append, cntT]
      congr 3
      omega
  rw [show mkTs k l = mkTs k (l.take q ++ (x :: l.drop (q + 1))) from congrArg _ e, m, List.getElem?_append_right (by rw [mkTs_len, List.length_take]; omega), mkTs_len, List.length_take]
  have : q - min q l.length = 0 := by omega
  rw [this, mkTs]
  rfl
/-- The first q marked, the others as they were. -/
def partT (k : Int) (l : List Ter) (q : Nat) : List Ter := mkTs k (l.take q) ++ l.drop q
theorem partT_zero (k : Int) (l : List Ter) : partT k l 0 = l := by simp [partT, mkTs]
theorem partT_all (k : Int) (l : List Ter) : partT k l l.length = mkTs k l := by simp [partT]
theorem partT_here {l : List Ter} {q : Nat} {x : Ter} (h : l[q]? = some x) (k : Int) : (partT k l q)[q]? = some x := by
  have hq := lt_of_at h
  rw [partT, List.getElem?_append_right (by rw [mkTs_len, List.length_take]; omega), mkTs_len, List.length_take, List.getElem?_drop]
  rw [show q + (q - min q l.length) = q by omega]
  exact h
theorem partT_more {l : List Ter} {q : Nat} {x : Ter} (h : l[q]? = some x) (k : Int) : partT k l (q + 1) = (partT k l q).set q (mkT (k + cntT (l.take q)) x) := by
  have hq := lt_of_at h
  have e1 : (mkTs k (l.take q)).length = q := by rw [mkTs_len, List.length_take]; omega
  rw [partT, partT, List.take_add_one, h]
  simp only [Option.toList_some]
  rw [mkTs_snoc, List.set_append_right _ _ (by omega), e1, Nat.sub_self, dropA h, List.set_cons_zero, List.append_assoc]
  rfl

/-- Terrains in a row of their own in block g, their costs in other blocks, all in lo .. hi - 1. -/
structure TerB (w : World) (lo hi g n cap : Nat) (l : List Ter) (cs : List (Option Addr × Nat)) (ys : List Value) : Prop where
  row : w.ownsRow lo 65 5 (.slice (some ⟨g, 0, none⟩) n cap) n ys
  here : ∀ (j : Nat) (x : Ter) (c : Option Addr × Nat), l[j]? = some x → cs[j]? = some c → TerIn ys j x c
  each : ∀ (j : Nat) (x : Ter) (c : Option Addr × Nat), l[j]? = some x → cs[j]? = some c → OwnI w lo (.slice c.1 x.cost.length c.2) x.cost
  apart : ∀ (i j : Nat) (c d : Option Addr × Nat), i ≠ j → cs[i]? = some c → cs[j]? = some d → ∀ (x y k : Nat), (Value.slice c.1 x c.2).ownBlock = some k → (Value.slice d.1 y d.2).ownBlock ≠ some k
  off : ∀ (j : Nat) (c : Option Addr × Nat) (x k : Nat), cs[j]? = some c → (Value.slice c.1 x c.2).ownBlock = some k → k ≠ g ∧ k < hi
  lt : l.length = n
  lc : cs.length = n
  up : g < hi
theorem TerB.keep {w w' : World} {lo hi g n cap : Nat} {l : List Ter} {cs : List (Option Addr × Nat)} {ys : List Value} (h : TerB w lo hi g n cap l cs ys) (k : Kp w w') : TerB w' lo hi g n cap l cs ys :=
  ⟨ownsRow_keep h.row k, h.here, fun j x c hx hc => (h.each j x c hx hc).keep k, h.apart, h.off, h.lt, h.lc, h.up⟩
theorem TerB.rd {w : World} {lo hi g n cap : Nat} {l : List Ter} {cs : List (Option Addr × Nat)} {ys : List Value} (h : TerB w lo hi g n cap l cs ys) : RdT w (some ⟨g, 0, none⟩) n l :=
  ⟨h.lt, fun _ => ⟨g, 0, rfl, fun i x hx => by
    have hi := lt_of_at hx
    have hl := h.lt
    have hcl := h.lc
    have hcs : cs[i]? = some (cs[i]'(by omega)) := List.getElem?_eq_getElem _
    obtain ⟨h0, h1, h2, h3, h4⟩ := h.here i x _ hx hcs
    have hlen : ys.length = n * 5 := h.row.1
    have e := (h.each i x _ hx hcs).rd
    rw [Nat.zero_add]
    refine ⟨_, _, ⟨?_, ?_, ?_, ?_, ?_⟩, e⟩
    · exact (h.row.cellAt (i * 5) (by omega)).trans h0
    · exact (h.row.cellAt (i * 5 + 1) (by omega)).trans h1
    · exact (h.row.cellAt (i * 5 + 2) (by omega)).trans h2
    · exact (h.row.cellAt (i * 5 + 3) (by omega)).trans h3
    · exact (h.row.cellAt (i * 5 + 4) (by omega)).trans h4⟩⟩
theorem TerB.of_own {w : World} {g n hi : Nat} {l : List Ter} {cs : List (Option Addr × Nat)} {ys : List Value} (h : OwnT w g n l cs ys) (hl : l.length = n) (hc : cs.length = n) (hg : g < hi)
    (hhi : ∀ (j : Nat) (c : Option Addr × Nat) (x b : Nat), cs[j]? = some c → (Value.slice c.1 x c.2).ownBlock = some b → g < b ∧ b < hi) : TerB w g hi g n n l cs ys where
  row := h.row
  here := h.here
  each := fun j x c hx hcj => (h.each j x c hx hcj).base (by omega)
  apart := fun i j c d hij hi hj x y k h1 h2 => by
    rcases Nat.lt_or_ge i j with e | e
    · exact h.apart i j c d e hi hj x y k h1 h2
    · exact h.apart j i d c (by omega) hj hi y x k h2 h1
  off := fun j c x k hcj hk => by have := hhi j c x k hcj hk; omega
  lt := hl
  lc := hc
  up := hg

theorem TerB.marked {w w1 w2 : World} {lo hi g n cap q : Nat} {l : List Ter} {cs : List (Option Addr × Nat)} {ys : List Value} {x y : Ter} {c : Option Addr × Nat} (h : TerB w lo hi g n cap l cs ys) (hx : l[q]? = some x) (hc : cs[q]? = some c) (hy : y.cost.length = x.cost.length)
    (k1 : Kp w w1) (o2 : OwnI w2 lo (.slice c.1 y.cost.length c.2) y.cost) (gr : (w1.setCell ⟨g, q * 5, none⟩ (.string y.name)).grownBy w2 (Value.slice c.1 y.cost.length c.2).ownBlock) :
    ∃ ys', TerB (((w2.setCell ⟨g, q * 5 + 2, none⟩ (.int .i64 y.shift)).setCell ⟨g, q * 5 + 3, none⟩ (.int .i64 y.height)).setCell ⟨g, q * 5 + 4, none⟩ (.bool y.blocks)) lo hi g n cap (l.set q y) cs ys' := by
  have hq := lt_of_at hx
  have hlt := h.lt
  have hlen : ys.length = n * 5 := h.row.1
  have ng : ∀ (j : Nat) (d : Option Addr × Nat) (z : Nat), cs[j]? = some d → (Value.slice d.1 z d.2).ownBlock ≠ some g := fun j d z hd e => (h.off j d z g hd e).1 rfl
  have R1 := ownsRow_keep h.row k1
  have R2 := (R1.stored (q * 5) (.string y.name)).1
  have R3 := live_grown R2 gr (fun e => ng q c _ hc e.symm)
  refine ⟨_, (((R3.stored (q * 5 + 2) (.int .i64 y.shift)).1.stored (q * 5 + 3) (.int .i64 y.height)).1.stored (q * 5 + 4) (.bool y.blocks)).1, ?_, ?_, h.apart, h.off, by rw [List.length_set]; exact hlt, h.lc, h.up⟩
  · intro j z d hz hd
    by_cases e : j = q
    · subst e
      rw [List.getElem?_set_self (by omega)] at hz
      obtain rfl := Option.some.inj hz
      obtain rfl := Option.some.inj (hc.symm.trans hd)
      have h0 := (h.here j x c hx hc).2.1
      refine ⟨?_, ?_, ?_, ?_, ?_⟩
      · rw [List.getElem?_set_ne (by omega), List.getElem?_set_ne (by omega), List.getElem?_set_ne (by omega), List.getElem?_set_self (by omega)]
      · rw [List.getElem?_set_ne (by omega), List.getElem?_set_ne (by omega), List.getElem?_set_ne (by omega), List.getElem?_set_ne (by omega), hy]
        exact h0
      · rw [List.getElem?_set_ne (by omega), List.getElem?_set_ne (by omega), List.getElem?_set_self (by simp only [List.length_set]; omega)]
      · rw [List.getElem?_set_ne (by omega), List.getElem?_set_self (by simp only [List.length_set]; omega)]
      · rw [List.getElem?_set_self (by simp only [List.length_set]; omega)]
    · rw [List.getElem?_set_ne (fun e2 => e e2.symm)] at hz
      obtain ⟨h0, h1, h2, h3, h4⟩ := h.here j z d hz hd
      refine ⟨?_, ?_, ?_, ?_, ?_⟩
      · rw [List.getElem?_set_ne (by omega), List.getElem?_set_ne (by omega), List.getElem?_set_ne (by omega), List.getElem?_set_ne (by omega)]
        exact h0
      · rw [List.getElem?_set_ne (by omega), List.getElem?_set_ne (by omega), List.getElem?_set_ne (by omega), List.getElem?_set_ne (by omega)]
        exact h1
      · rw [List.getElem?_set_ne (by omega), List.getElem?_set_ne (by omega), List.getElem?_set_ne (by omega), List.getElem?_set_ne (by omega)]
        exact h2
      · rw [List.getElem?_set_ne (by omega), List.getElem?_set_ne (by omega), List.getElem?_set_ne (by omega), List.getElem?_set_ne (by omega)]
        exact h3
      · rw [List.getElem?_set_ne (by omega), List.getElem?_set_ne (by omega), List.getElem?_set_ne (by omega), List.getElem?_set_ne (by omega)]
        exact h4
  · intro j z d hz hd
    by_cases e : j = q
    · subst e
      rw [List.getElem?_set_self (by omega)] at hz
      obtain rfl := Option.some.inj hz
      obtain rfl := Option.some.inj (hc.symm.trans hd)
      have n1 := ng j c y.cost.length hc
      exact ((o2.far n1 _).far n1 _).far n1 _
    · rw [List.getElem?_set_ne (fun e2 => e e2.symm)] at hz
      have n1 := ng j d z.cost.length hd
      have o1 : OwnI (w1.setCell ⟨g, q * 5, none⟩ (.string y.name)) lo (.slice d.1 z.cost.length d.2) z.cost := ((h.each j z d hz hd).keep k1).far n1 _
      have o3 : OwnI w2 lo (.slice d.1 z.cost.length d.2) z.cost := by
        refine World.ownsRow.kept o1 gr ?_
        cases hb : (Value.slice d.1 z.cost.length d.2).ownBlock
        · exact .inl rfl
        · rename_i b
          exact .inr fun e3 => h.apart q j c d (fun e4 => e e4.symm) hc hd y.cost.length z.cost.length b e3.symm hb
      exact ((o3.far n1 _).far n1 _).far n1 _

set_option maxRecDepth 100000 in
set_option maxHeartbeats 4000000 in
theorem markTerrainS_own (lo hi g n cap : Nat) (l : List Ter) (cs : List (Option Addr × Nat)) (ys : List Value) (k0 : Nat) (w : World) (h : TerB w lo hi g n cap l cs ys) (hn : n ≤ 1048576) (hb : ∀ x ∈ l, x.cost.length ≤ 1048576) (hlo : lo ≤ w.heap.size) (p1 : k0 ≤ 100000000000000) :
    Calls Tryz.prog 51 #[.slice (some ⟨g, 0, none⟩) n cap, .int .i64 (k0 : Int)] w fun e w' => e = .returned (.int .i64 ((k0 : Int) + cntT l)) ∧ (∃ ys', TerB w' lo hi g n cap (mkTs k0 l) cs ys') ∧ Mk lo hi w w' := by
  have hl := h.lt
  have hcl := h.lc
  have hgh := h.up
  have hgl : lo ≤ g := (World.ownsRow.lt h.row g rfl).1
  have HN := Lib.hid hl
  have HC := Lib.hid hcl
  have HB := Lib.hid hb
  have HBQ := Lib.hid (fun (q : Nat) => cntT_bound (l.take q) (fun x hx => hb x (List.mem_of_mem_take hx)))
  have S0 : Hid (TerB w lo hi g n cap (partT k0 l 0) cs ys) := Lib.hid (by rw [partT_zero]; exact h)
  clear h hl hcl hb
  go_enter Tryz.func51, Tryz.ntmps51
  go_wp2_with fail
  go_loopw [1, 5] (fun kk i wr => ∃ (q k : Nat) (ys : List Value), q ≤ n ∧ i = .int .i64 q ∧ kk = .int .i64 (k : Int) ∧ Hid ((k : Int) = k0 + cntT (l.take q)) ∧ Hid (TerB wr lo hi g n cap (partT k0 l q) cs ys) ∧ Mk lo hi w wr ∧ w.heap.size ≤ wr.heap.size) (fun _ i _ => n - (intOf i).toNat)
  case atStart => exact ⟨0, k0, ys, by omega, rfl, rfl, Lib.hid (by simp [cntT]), S0, Mk.refl _ _ _, Nat.le_refl _⟩
  case round =>
    clear S0
    obtain ⟨q, k, zs, hq, rfl, rfl, HK, HT, mk, hz⟩ := hrel
    have hkb : k ≤ 200000000000000 := by
      have h1 := (HBQ.out q).2
      have h2 := HK.out
      rw [List.length_take] at h1
      omega
    by_cases hlt : q < n
    · have hlt' : (q : Int) < n := by omega
      obtain ⟨x, hx⟩ : ∃ x, l[q]? = some x := ⟨l[q]'(by have := HN.out; omega), List.getElem?_eq_getElem _⟩
      obtain ⟨c, hc⟩ : ∃ c, cs[q]? = some c := ⟨cs[q]'(by have := HC.out; omega), List.getElem?_eq_getElem _⟩
      have hnc := HB.out x (List.mem_of_getElem? hx)
      have HX := Lib.hid hx
      have HCC := Lib.hid hc
      have HP := Lib.hid (partT_here hx k0)
      have HY := Lib.hid (HT.out.here q x c HP.out hc).2.1
      have HO := Lib.hid (HT.out.each q x c HP.out hc)
      have HNG : Hid ((Value.slice c.1 x.cost.length c.2).ownBlock ≠ some g) := Lib.hid fun e => (HT.out.off q c _ g hc e).1 rfl
      obtain ⟨Ac, cc⟩ := c
      have HCL : Hid ((mkT k x).cost.length = x.cost.length) := Lib.hid (marksI_len _ _)
      have HMK : Hid (mkT k x = ⟨mtx k, marksI ((k : Int) + 1) x.cost.length, (k : Int) + 1 + x.cost.length, (k : Int) + 1 + x.cost.length + 1, ((k : Int) + 1 + x.cost.length + 1 + 1) % 3 == 0⟩) := Lib.hid (by unfold mkT; rw [Int.toNat_natCast])
      have HSTEP : Hid (partT k0 l (q + 1) = (partT k0 l q).set q (mkT k x)) := Lib.hid (by rw [HK.out]; exact partT_more hx k0)
      have HKN : Hid (((k + 4 + x.cost.length : Nat) : Int) = k0 + cntT (l.take (q + 1))) := Lib.hid (by have := cntT_more hx; have := HK.out; omega)
      simp only at HY HO HNG
      generalize hcl : x.cost.length = nc at HO HY hnc HNG HCL HMK HKN
      obtain ⟨⟨u0, b0⟩, f0⟩ := liveN HT.out.row (j := q * 5) (by omega)
      have hgr : g < wr.heap.size := (World.ownsRow.lt HT.out.row g rfl).2
      have HCLX := Lib.hid hcl
      clear hx hc hcl
      go_wp2_with fail
      refine (markText_mtx k _ (by omega)).mono ?_
      rintro e1 w1 ⟨rfl, k1⟩
      obtain ⟨s, hs⟩ : ∃ s, mtx k = s := ⟨_, rfl⟩
      rw [hs] at HMK ⊢
      have b0' := k1.cell b0
      have R1 := Lib.hid (ownsRow_keep HT.out.row k1)
      have f0' := (liveN R1.out (j := q * 5) (by omega)).2
      have R2 := Lib.hid (R1.out.stored (q * 5) (.string s)).1
      have O2 : Hid ((w1.setCell ⟨g, q * 5, none⟩ (.string s)).ownsRow lo 3 1 (.slice Ac nc cc) nc (cellsI x.cost)) := Lib.hid (by
        have := (HO.out.keep k1).far (g := g) (j := q * 5) HNG.out (.string s)
        unfold OwnI at this
        rw [HCLX.out] at this
        exact this)
      have c1 : (w1.setCell ⟨g, q * 5, none⟩ (.string s)).cell? ⟨g, q * 5 + 1, none⟩ = some (.slice Ac nc cc) := by
        refine (R2.out.cellAt (q * 5 + 1) (by omega)).trans ?_
        have hl5 : zs.length = n * 5 := HT.out.row.1
        rw [List.getElem?_set_ne (by omega)]
        exact HY.out
      have m1 : Mk lo hi w (w1.setCell ⟨g, q * 5, none⟩ (.string s)) := (mk.trans (Mk.of_kp k1 (by omega))).set hgl hgh _
      have hz1 : wr.heap.size ≤ (w1.setCell ⟨g, q * 5, none⟩ (.string s)).heap.size := by have := k1.size; simpa using this
      have K1 := Lib.hid k1
      clear b0 f0 R1 hs k1
      go_wp2_with fail
      generalize hW : w1.setCell ⟨g, q * 5, none⟩ (.string s) = W1 at *
      refine (markIntS_own _ _ lo _ _ _ (by omega) (by omega) hnc O2.out).mono ?_
      rintro e2 w2 ⟨rfl, o2, g2⟩
      have R3 := Lib.hid (live_grown R2.out g2 (fun e => HNG.out e.symm))
      have hoff : ∀ b, (Value.slice Ac nc cc).ownBlock = some b → lo ≤ b ∧ b < hi := fun b e => ⟨(World.ownsRow.lt O2.out b e).1, (HT.out.off q _ _ b HCC.out e).2⟩
      have m2 : Mk lo hi w w2 := m1.grown g2 (by omega) hoff
      have hz2 : W1.heap.size ≤ w2.heap.size := g2.size
      obtain ⟨⟨u2, b2⟩, f2⟩ := liveN R3.out (j := q * 5 + 2) (by omega)
      obtain ⟨⟨u3, b3⟩, f3⟩ := liveN R3.out (j := q * 5 + 3) (by omega)
      obtain ⟨⟨u4, b4⟩, f4⟩ := liveN R3.out (j := q * 5 + 4) (by omega)
      have HNEW := Lib.hid (TerB.marked (y := mkT k x) HT.out HP.out HCC.out (by rw [HCL.out, HCLX.out]) K1.out (w2 := w2) (by
        rw [HMK.out]
        simp only
        rw [marksI_len]
        show World.ownsRow _ _ _ _ _ (marksI _ _).length _
        rw [marksI_len, marksI_cells]
        exact o2) (by
        rw [HMK.out]
        simp only
        rw [marksI_len, hW]
        exact g2))
      rw [HMK.out] at HNEW
      have HNEW' := Lib.hid HNEW.out
      clear g2 hW O2 R2 c1 m1 b0' f0' o2 hoff K1 HNEW
      go_wp2_with fail
      go_roundw
      case rel =>
        obtain ⟨ys', ht⟩ := HNEW'.out
        refine ⟨q + 1, k + 4 + nc, ys', by omega, by go_num, by congr 1; omega, HKN, Lib.hid ?_, ((m2.set hgl hgh _).set hgl hgh _).set hgl hgh _, by simp; omega⟩
        rw [HSTEP.out, HMK.out]
        exact ht
      case measure => simp [intOf]; omega
    · obtain rfl : q = n := by omega
      have HKE := Lib.hid (show (k : Int) = k0 + cntT l by
        have h1 := HK.out
        rw [List.take_of_length_le (by rw [HN.out]; omega)] at h1
        exact h1)
      have HTE : Hid (∃ ys', TerB wr lo hi g q cap (mkTs k0 l) cs ys') := Lib.hid ⟨zs, by
        have h1 := HT.out
        rw [← HN.out, partT_all] at h1
        rw [← HN.out]
        exact h1⟩
      clear HK HT
      go_wp2_with fail
      go_ret
      exact ⟨by rw [HKE.out]; rfl, HTE.out, mk⟩

end Go.Proofs.YtmolpkjdjkhnpaaGreatDoor

/-
  The laws' marks of kinds, of rules and of maps: what the cells hold behind them.
-/
namespace Go.Proofs.YtmolpkjdjkhnpaaGreatDoor
open Go.RowKit

def mkK (k : Int) : Knd := ⟨mtx k.toNat, k + 1, k + 1 + 1, k + 1 + 1 + 1, (k + 1 + 1 + 1 + 1) % 3 == 0, k + 1 + 1 + 1 + 1 + 1⟩
def mkKs (k : Int) (n : Nat) : List Knd := (List.range n).map fun j : Nat => mkK (k + 6 * (j : Int))
theorem mkKs_len (k : Int) (n : Nat) : (mkKs k n).length = n := by simp [mkKs]
theorem mkKs_at (k : Int) {n j : Nat} (h : j < n) : (mkKs k n)[j]? = some (mkK (k + 6 * (j : Int))) := by simp [mkKs, h]

/-- Kinds in a row of their own in block g, in lo .. hi - 1. -/
structure KndB (w : World) (lo hi g n cap : Nat) (m : List Knd) (zs : List Value) : Prop where
  row : w.ownsRow lo 76 6 (.slice (some ⟨g, 0, none⟩) n cap) n zs
  here : ∀ (j : Nat) (x : Knd), m[j]? = some x → KndIn zs j x
  lk : m.length = n
  up : g < hi
theorem KndB.keep {w w' : World} {lo hi g n cap : Nat} {m : List Knd} {zs : List Value} (h : KndB w lo hi g n cap m zs) (k : Kp w w') : KndB w' lo hi g n cap m zs := ⟨ownsRow_keep h.row k, h.here, h.lk, h.up⟩
theorem KndB.rd {w : World} {lo hi g n cap : Nat} {m : List Knd} {zs : List Value} (h : KndB w lo hi g n cap m zs) : RdK w (some ⟨g, 0, none⟩) n m :=
  ⟨h.lk, fun _ => ⟨g, 0, rfl, fun i x hx => by
    have hi := lt_of_at hx
    have hl := h.lk
    obtain ⟨h0, h1, h2, h3, h4, h5⟩ := h.here i x hx
    rw [Nat.zero_add]
    refine ⟨?_, ?_, ?_, ?_, ?_, ?_⟩
    · exact (h.row.cellAt (i * 6) (by omega)).trans h0
    · exact (h.row.cellAt (i * 6 + 1) (by omega)).trans h1
    · exact (h.row.cellAt (i * 6 + 2) (by omega)).trans h2
    · exact (h.row.cellAt (i * 6 + 3) (by omega)).trans h3
    · exact (h.row.cellAt (i * 6 + 4) (by omega)).trans h4
    · exact (h.row.cellAt (i * 6 + 5) (by omega)).trans h5⟩⟩

set_option maxRecDepth 100000 in
set_option maxHeartbeats 4000000 in
theorem markKindS_own (lo hi g n cap : Nat) (zs : List Value) (k0 : Nat) (w : World) (h : w.ownsRow lo 76 6 (.slice (some ⟨g, 0, none⟩) n cap) n zs) (hn : n ≤ 1048576) (hgh : g < hi) (_hlo : lo ≤ w.heap.size) (p1 : k0 ≤ 200000000000000) :
    Calls Tryz.prog 52 #[.slice (some ⟨g, 0, none⟩) n cap, .int .i64 (k0 : Int)] w fun e w' => e = .returned (.int .i64 ((k0 : Int) + 6 * (n : Int))) ∧ (∃ zs', KndB w' lo hi g n cap (mkKs k0 n) zs') ∧ Mk lo hi w w' := by
  have hgl : lo ≤ g := (World.ownsRow.lt h g rfl).1
  have R0 := Lib.hid h
  clear h
  go_enter Tryz.func52, Tryz.ntmps52
  go_wp2_with fail
  go_loopw [1, 5] (fun kk i wr => ∃ (q k : Nat) (ys : List Value), q ≤ n ∧ i = .int .i64 q ∧ kk = .int .i64 (k : Int) ∧ Hid (k = k0 + 6 * q) ∧ Hid (wr.ownsRow lo 76 6 (.slice (some ⟨g, 0, none⟩) n cap) n ys) ∧ Hid (∀ j, j < q → KndIn ys j (mkK (k0 + 6 * (j : Int)))) ∧ Mk lo hi w wr ∧ w.heap.size ≤ wr.heap.size) (fun _ i _ => n - (intOf i).toNat)
  case atStart => exact ⟨0, k0, zs, by omega, rfl, rfl, Lib.hid (by omega), R0, Lib.hid (fun j hj => by omega), Mk.refl _ _ _, Nat.le_refl _⟩
  case round =>
    clear R0
    obtain ⟨q, k, zs, hq, rfl, rfl, HK, HR, HH, mk, hz⟩ := hrel
    have hkb : k ≤ 400000000000000 := by have := HK.out; omega
    by_cases hlt : q < n
    · have hlt' : (q : Int) < n := by omega
      obtain ⟨⟨u0, b0⟩, f0⟩ := liveN HR.out (j := q * 6) (by omega)
      have hgr : g < wr.heap.size := (World.ownsRow.lt HR.out g rfl).2
      have HMK : Hid (mkK (k0 + 6 * (q : Int)) = ⟨mtx k, (k : Int) + 1, (k : Int) + 1 + 1, (k : Int) + 1 + 1 + 1, ((k : Int) + 1 + 1 + 1 + 1) % 3 == 0, (k : Int) + 1 + 1 + 1 + 1 + 1⟩) := Lib.hid (by
        have e : (k0 : Int) + 6 * (q : Int) = (k : Int) := by have := HK.out; omega
        rw [e]
        unfold mkK
        rw [Int.toNat_natCast])
      go_wp2_with fail
      refine (markText_mtx k _ (by omega)).mono ?_
      rintro e1 w1 ⟨rfl, k1⟩
      obtain ⟨s, hs⟩ : ∃ s, mtx k = s := ⟨_, rfl⟩
      rw [hs] at HMK ⊢
      have R1 := Lib.hid (ownsRow_keep HR.out k1)
      have HL1 : Hid (zs.length = n * 6) := Lib.hid HR.out.1
      obtain ⟨⟨t0, c0⟩, d0⟩ := liveN R1.out (j := q * 6) (by omega)
      obtain ⟨⟨t1, c1⟩, d1⟩ := liveN R1.out (j := q * 6 + 1) (by omega)
      obtain ⟨⟨t2, c2⟩, d2⟩ := liveN R1.out (j := q * 6 + 2) (by omega)
      obtain ⟨⟨t3, c3⟩, d3⟩ := liveN R1.out (j := q * 6 + 3) (by omega)
      obtain ⟨⟨t4, c4⟩, d4⟩ := liveN R1.out (j := q * 6 + 4) (by omega)
      obtain ⟨⟨t5, c5⟩, d5⟩ := liveN R1.out (j := q * 6 + 5) (by omega)
      have m1 : Mk lo hi w w1 := mk.trans (Mk.of_kp k1 (by omega))
      have hz1 : wr.heap.size ≤ w1.heap.size := k1.size
      clear b0 f0 k1 hs
      go_wp2_with fail
      go_roundw
      case rel =>
        refine ⟨q + 1, k + 6, _, by omega, by go_num, by congr 1, Lib.hid (by have := HK.out; omega), Lib.hid (stored6 R1.out q _ _ _ _ _ _), Lib.hid ?_, (((((m1.set hgl hgh _).set hgl hgh _).set hgl hgh _).set hgl hgh _).set hgl hgh _).set hgl hgh _, by simp; omega⟩
        intro j hj
        rcases Nat.lt_or_ge j q with e | e
        · exact kndIn_old (HH.out j e) e
        · obtain rfl : j = q := by omega
          rw [HMK.out]
          exact kndIn_new (x := ⟨s, (k : Int) + 1, (k : Int) + 1 + 1, (k : Int) + 1 + 1 + 1, ((k : Int) + 1 + 1 + 1 + 1) % 3 == 0, (k : Int) + 1 + 1 + 1 + 1 + 1⟩) HL1.out hlt
      case measure => simp [intOf]; omega
    · obtain rfl : q = n := by omega
      have HE : Hid ((k : Int) = k0 + 6 * (q : Int)) := Lib.hid (by have := HK.out; omega)
      have HB : Hid (∃ zs', KndB wr lo hi g q cap (mkKs k0 q) zs') := Lib.hid ⟨zs, HR.out, fun j x hx => by
        have hj := lt_of_at hx
        rw [mkKs_len] at hj
        rw [mkKs_at _ hj] at hx
        obtain rfl := Option.some.inj hx
        exact HH.out j hj, mkKs_len _ _, hgh⟩
      clear HK HR HH
      go_wp2_with fail
      go_ret
      exact ⟨by rw [HE.out]; rfl, HB.out, mk⟩

theorem ownsRow_low {w w' : World} {b base sz n : Nat} {e : TypeId} {v : Value} {xs : List Value} (h : Below b w w') (o : w.ownsRow base e sz v n xs) (hb : ∀ g, v.ownBlock = some g → g < b) : w'.ownsRow base e sz v n xs := by
  obtain ⟨hl, hv⟩ := o
  refine ⟨hl, ?_⟩
  rcases hv with h0 | ⟨g, cap, cur, rfl, h1, h2, h3⟩
  · exact .inl h0
  · exact .inr ⟨g, cap, cur, rfl, h1, by rw [h.block g (hb g rfl)]; exact h2, h3⟩
theorem TerB.low {w w' : World} {lo hi g n cap b : Nat} {l : List Ter} {cs : List (Option Addr × Nat)} {ys : List Value} (h : TerB w lo hi g n cap l cs ys) (k : Below b w w') (hb : hi ≤ b) : TerB w' lo hi g n cap l cs ys :=
  ⟨ownsRow_low k h.row (fun k e => by
    have : g = k := by simpa [Value.ownBlock] using e
    have := h.up
    omega), h.here, fun j x c hx hc => ownsRow_low k (h.each j x c hx hc) (fun k e => by have := (h.off j c _ k hc e).2; omega), h.apart, h.off, h.lt, h.lc, h.up⟩
theorem TerB.high {w w' : World} {lo hi g n cap b c : Nat} {l : List Ter} {cs : List (Option Addr × Nat)} {ys : List Value} (h : TerB w lo hi g n cap l cs ys) (k : Mk b c w w') (hb : c ≤ lo) : TerB w' lo hi g n cap l cs ys :=
  ⟨k.own h.row (fun k e => Nat.le_trans hb (World.ownsRow.lt h.row k e).1), h.here, fun j x d hx hc => k.own (h.each j x d hx hc) (fun k e => Nat.le_trans hb (World.ownsRow.lt (h.each j x d hx hc) k e).1), h.apart, h.off, h.lt, h.lc, h.up⟩
theorem KndB.low {w w' : World} {lo hi g n cap b : Nat} {m : List Knd} {zs : List Value} (h : KndB w lo hi g n cap m zs) (k : Below b w w') (hb : hi ≤ b) : KndB w' lo hi g n cap m zs :=
  ⟨ownsRow_low k h.row (fun k e => by
    have : g = k := by simpa [Value.ownBlock] using e
    have := h.up
    omega), h.here, h.lk, h.up⟩
theorem KndB.high {w w' : World} {lo hi g n cap b c : Nat} {m : List Knd} {zs : List Value} (h : KndB w lo hi g n cap m zs) (k : Mk b c w w') (hb : c ≤ lo) : KndB w' lo hi g n cap m zs :=
  ⟨k.own h.row (fun k e => Nat.le_trans hb (World.ownsRow.lt h.row k e).1), h.here, h.lk, h.up⟩

end Go.Proofs.YtmolpkjdjkhnpaaGreatDoor

/-
  The laws' marks of rules, maps and boards, where each part lies in blocks of its own range.
-/
namespace Go.Proofs.YtmolpkjdjkhnpaaGreatDoor
open Go.RowKit

set_option maxRecDepth 100000 in
set_option maxHeartbeats 4000000 in
theorem markRules_own (lo mid hi g1 g2 nt nk ct ck : Nat) (l : List Ter) (m : List Knd) (cs : List (Option Addr × Nat)) (ys zs : List Value) (a b c d e : Int) (k0 : Nat) (w : World) (ht : TerB w lo mid g1 nt ct l cs ys) (hk : KndB w mid hi g2 nk ck m zs)
    (hb1 : nt ≤ 1048576) (hb2 : nk ≤ 1048576) (hb : ∀ x ∈ l, x.cost.length ≤ 1048576) (hlo : lo ≤ mid) (hmid : mid ≤ w.heap.size) (hhi : hi ≤ w.heap.size) (p1 : k0 ≤ 100000000000000) :
    Calls Tryz.prog 23 #[rv (.slice (some ⟨g1, 0, none⟩) nt ct) (.slice (some ⟨g2, 0, none⟩) nk ck) a b c d e, .int .i64 (k0 : Int)] w fun e' w' => e' = .returned (.int .i64 ((k0 : Int) + cntT l + 6 * (nk : Int))) ∧ (∃ ys', TerB w' lo mid g1 nt ct (mkTs k0 l) cs ys') ∧ (∃ zs', KndB w' mid hi g2 nk ck (mkKs ((k0 : Int) + cntT l) nk) zs') ∧ Mk lo hi w w' := by
  have KA : Kp w (w.alloc (.cells #[.slice (some ⟨g1, 0, none⟩) nt ct, .slice (some ⟨g2, 0, none⟩) nk ck, .int .i64 a, .int .i64 b, .int .i64 c, .int .i64 d, .int .i64 e] 35)) := (Kp.refl w).alloc _
  have q1 : (w.alloc (.cells #[.slice (some ⟨g1, 0, none⟩) nt ct, .slice (some ⟨g2, 0, none⟩) nk ck, .int .i64 a, .int .i64 b, .int .i64 c, .int .i64 d, .int .i64 e] 35)).cell? ⟨w.heap.size, 1, none⟩ = some (.slice (some ⟨g2, 0, none⟩) nk ck) := by simp [go_sem]
  have HT := Lib.hid (ht.keep KA)
  have HK := Lib.hid (hk.keep KA)
  have HB := Lib.hid hb
  have hcn := cntT_bound l hb
  have hlt := ht.lt
  rw [hlt] at hcn
  have x1 := hk.up
  have x0 := (World.ownsRow.lt hk.row g2 rfl).1
  obtain ⟨kc, hkc⟩ : ∃ kc : Nat, (kc : Int) = k0 + cntT l := ⟨(k0 + cntT l).toNat, by omega⟩
  have HKC := Lib.hid hkc
  have hkc2 : kc ≤ 200000000000000 := by omega
  clear ht hk hb hcn hlt hkc
  go_enter Tryz.func23, Tryz.ntmps23
  go_wp2_with fail
  refine (markTerrainS_own lo mid g1 nt ct l cs ys k0 _ HT.out hb1 HB.out (by simp; omega) p1).mono ?_
  rintro e1 w1 ⟨rfl, t1, m1⟩
  have q2 := m1.cell_hi (by omega) q1
  have T1 := Lib.hid t1
  have K1 := Lib.hid (HK.out.high m1 (Nat.le_refl _))
  have M1 : Mk lo hi w w1 := (Mk.of_kp KA (by omega)).trans (m1.wide (by omega))
  have z1 := m1.1.size
  clear q1 m1 t1 HT HK
  rw [← HKC.out]
  go_wp2_with fail
  refine (markKindS_own mid hi g2 nk ck zs kc _ K1.out.row hb2 x1 (by simp at z1; omega) hkc2).mono ?_
  rintro e2 w2 ⟨rfl, k2, m2⟩
  have T2 : Hid (∃ ys', TerB w2 lo mid g1 nt ct (mkTs k0 l) cs ys') := Lib.hid (by
    obtain ⟨ys', h⟩ := T1.out
    exact ⟨ys', h.low m2.1 (Nat.le_refl _)⟩)
  have K2 := Lib.hid k2
  have M2 : Mk lo hi w w2 := M1.trans ⟨Below.mono m2.1 hlo, m2.2⟩
  clear m2 k2 T1 K1 M1
  go_wp2_with fail
  go_ret
  rw [← HKC.out]
  exact ⟨rfl, T2.out, K2.out, M2⟩

/-- The three lists of a map, marked one behind the other, from k on. -/
structure MarksM (w : World) (base : Nat) (t r d : Value) (nt nr nd : Nat) (k : Int) : Prop where
  ot : OwnI w base t (marksI k nt)
  or : OwnI w base r (marksI (k + nt) nr)
  od : OwnI w base d (marksI (k + nt + nr) nd)
theorem MarksM.keep {w w' : World} {base : Nat} {t r d : Value} {nt nr nd : Nat} {k : Int} (h : MarksM w base t r d nt nr nd k) (kp : Kp w w') : MarksM w' base t r d nt nr nd k :=
  ⟨h.ot.keep kp, h.or.keep kp, h.od.keep kp⟩
theorem ownI_marks {w : World} {base n : Nat} {v : Value} {k : Int} (h : w.ownsRow base 3 1 v n (marks k n)) : OwnI w base v (marksI k n) := by
  unfold OwnI
  rw [marksI_cells, marksI_len]
  exact h

set_option maxRecDepth 100000 in
set_option maxHeartbeats 4000000 in
theorem markMap_own (W H : Int) (t r d : Value) (lt lr ld : List Int) (nt nr nd base hi : Nat) (k0 : Int) (w : World) (ho : Own3 w base t r d lt lr ld) (h1 : lt.length = nt) (h2 : lr.length = nr) (h3 : ld.length = nd) (b1 : nt ≤ 1048576) (b2 : nr ≤ 1048576) (b3 : nd ≤ 1048576) (hs : base ≤ w.heap.size)
    (hi1 : ∀ g, t.ownBlock = some g → g < hi) (hi2 : ∀ g, r.ownBlock = some g → g < hi) (hi3 : ∀ g, d.ownBlock = some g → g < hi) (p0 : 0 ≤ k0) (p1 : k0 ≤ 500000000000000) :
    Calls Tryz.prog 24 #[mp W H t r d, .int .i64 k0] w fun e w' => e = .returned (.int .i64 (k0 + nt + nr + nd)) ∧ MarksM w' base t r d nt nr nd k0 ∧ Mk base hi w w' := by
  have o1 : w.ownsRow base 3 1 t nt (cellsI lt) := by rw [← h1]; exact ho.ot
  have o2 : w.ownsRow base 3 1 r nr (cellsI lr) := by rw [← h2]; exact ho.or
  have o3 : w.ownsRow base 3 1 d nd (cellsI ld) := by rw [← h3]; exact ho.od
  have n1 := Lib.hid (ho.ot.block' w.heap.size (Nat.le_refl _))
  have n2 := Lib.hid (ho.or.block' w.heap.size (Nat.le_refl _))
  have AP := Lib.hid (And.intro ho.tr (And.intro ho.td ho.rd))
  have s0 := new5 w (.int .i64 W) (.int .i64 H) t r d 36
  have k0' := s0.2.2.2.2.2
  have O1 := Lib.hid (ownsRow_keep o1 k0')
  have O2 := Lib.hid (ownsRow_keep o2 k0')
  have O3 := Lib.hid (ownsRow_keep o3 k0')
  have I1 : Hid (∀ g, t.ownBlock = some g → base ≤ g ∧ g < hi) := Lib.hid fun g e => ⟨(World.ownsRow.lt o1 g e).1, hi1 g e⟩
  have I2 : Hid (∀ g, r.ownBlock = some g → base ≤ g ∧ g < hi) := Lib.hid fun g e => ⟨(World.ownsRow.lt o2 g e).1, hi2 g e⟩
  have I3 : Hid (∀ g, d.ownBlock = some g → base ≤ g ∧ g < hi) := Lib.hid fun g e => ⟨(World.ownsRow.lt o3 g e).1, hi3 g e⟩
  have m0 : Mk base hi w _ := Mk.of_kp k0' hs
  have hz0 : w.heap.size ≤ _ := k0'.size
  clear ho h1 h2 h3 o1 o2 o3 k0' hi1 hi2 hi3
  go_enter Tryz.func24, Tryz.ntmps24
  go_wp2_with fail
  refine (markIntS_own _ _ base _ _ _ (by omega) (by omega) b1 O1.out).mono ?_
  rintro e1 wa ⟨rfl, oa, ga⟩
  have c3 := ga.cell s0.2.2.2.1 (fun e => n1.out e.symm)
  have c4 := ga.cell s0.2.2.2.2.1 (fun e => n1.out e.symm)
  have P1 := Lib.hid oa
  have P2 := Lib.hid (World.ownsRow.kept O2.out ga (apart_ne AP.out.1))
  have P3 := Lib.hid (World.ownsRow.kept O3.out ga (apart_ne AP.out.2.1))
  have ma := m0.grown ga (by omega) I1.out
  have za := ga.size
  clear oa ga s0 O1 O2 O3 m0
  go_wp2_with fail
  refine (markIntS_own _ _ base _ _ _ (by omega) (by omega) b2 P2.out).mono ?_
  rintro e2 wb ⟨rfl, ob, gb⟩
  have d4 := gb.cell c4 (fun e => n2.out e.symm)
  have Q1 := Lib.hid (World.ownsRow.kept P1.out gb (apart_ne (apart_sym AP.out.1)))
  have Q2 := Lib.hid ob
  have Q3 := Lib.hid (World.ownsRow.kept P3.out gb (apart_ne AP.out.2.2))
  have mb := ma.grown gb (by omega) I2.out
  have zb := gb.size
  clear ob gb c3 c4 P1 P2 P3 ma
  go_wp2_with fail
  refine (markIntS_own _ _ base _ _ _ (by omega) (by omega) b3 Q3.out).mono ?_
  rintro e3 wc ⟨rfl, oc, gc⟩
  have R1 := Lib.hid (World.ownsRow.kept Q1.out gc (apart_ne (apart_sym AP.out.2.1)))
  have R2 := Lib.hid (World.ownsRow.kept Q2.out gc (apart_ne (apart_sym AP.out.2.2)))
  have R3 := Lib.hid oc
  have mc := mb.grown gc (by omega) I3.out
  clear oc gc d4 Q1 Q2 Q3 mb
  go_wp2_with fail
  go_ret
  exact ⟨rfl, ⟨ownI_marks R1.out, ownI_marks R2.out, ownI_marks R3.out⟩, mc⟩

end Go.Proofs.YtmolpkjdjkhnpaaGreatDoor

/-
  The laws' look at their marks of terrains, kinds and rules: what holds the marks is found to hold them. Nothing is changed.
-/
namespace Go.Proofs.YtmolpkjdjkhnpaaGreatDoor
open Go.RowKit

set_option maxRecDepth 100000 in
set_option maxHeartbeats 4000000 in
theorem heldKindS_rd (A : Option Addr) (n cap k0 : Nat) (w : World) (hr : RdK w A n (mkKs k0 n)) (hn : n ≤ 1048576) (p1 : k0 ≤ 200000000000000) :
    Calls Tryz.prog 55 #[.slice A n cap, .int .i64 (k0 : Int)] w fun e w' => e = .returned (.int .i64 ((k0 : Int) + 6 * (n : Int))) ∧ Kp w w' := by
  have HR := Lib.hid hr
  clear hr
  go_enter Tryz.func55, Tryz.ntmps55
  go_wp2_with fail
  go_loopw [1, 5] (fun kk i wr => ∃ (q k : Nat), q ≤ n ∧ i = .int .i64 q ∧ kk = .int .i64 (k : Int) ∧ Hid (k = k0 + 6 * q) ∧ Kp w wr) (fun _ i _ => n - (intOf i).toNat)
  case atStart => exact ⟨0, k0, by omega, rfl, rfl, Lib.hid (by omega), Kp.refl _⟩
  case round =>
    obtain ⟨q, k, hq, rfl, rfl, HK, kr⟩ := hrel
    have hkb : k ≤ 300000000000000 := by have := HK.out; omega
    by_cases hlt : q < n
    · have hlt' : (q : Int) < n := by omega
      obtain ⟨g, off, rfl, hc⟩ := HR.out.2 (by omega)
      have HX : Hid (KndAt w g (off + q * 6) (mkK k)) := Lib.hid (by
        have h := hc q _ (mkKs_at (k0 : Int) hlt)
        have e : (k : Int) = (k0 : Int) + 6 * (q : Int) := by have := HK.out; omega
        rw [e]
        exact h)
      have c0 : wr.cell? ⟨g, off + q * 6, none⟩ = some (.string (mtx k)) := kr.cell HX.out.1
      have n1 : (((k : Int) + 1) != ((k : Int) + 1)) = false := by simp
      have n2 : (((k : Int) + 1 + 1) != ((k : Int) + 1 + 1)) = false := by simp
      have n3 : (((k : Int) + 1 + 1 + 1) != ((k : Int) + 1 + 1 + 1)) = false := by simp
      have n4 : ((((k : Int) + 1 + 1 + 1 + 1) % 3 == 0) != (((k : Int) + 1 + 1 + 1 + 1) % 3 == 0)) = false := by simp
      have n5 : (((k : Int) + 1 + 1 + 1 + 1 + 1) != ((k : Int) + 1 + 1 + 1 + 1 + 1)) = false := by simp
      clear hc
      go_wp2_with fail
      go_region_held3 (fun w' => w'.cell? ⟨g, off + q * 6, none⟩ = some (.string (mtx k))) (first | assumption | go_keep)
        (first | (go_at_call 80; refine (markText_mtx k _ (by omega)).mono ?_; rintro e w1 ⟨rfl, k1⟩; have s1 : w1.cell? ⟨g, off + q * 6, none⟩ = some (.string (mtx k)) := k1.cell (by assumption)))
      all_goals
        have K2 := kr.drew.trans k1
        have C1 : w1.cell? ⟨g, off + q * 6 + 1, none⟩ = some (.int .i64 ((k : Int) + 1)) := K2.cell HX.out.2.1
        have C2 : w1.cell? ⟨g, off + q * 6 + 2, none⟩ = some (.int .i64 ((k : Int) + 1 + 1)) := K2.cell HX.out.2.2.1
        have C3 : w1.cell? ⟨g, off + q * 6 + 3, none⟩ = some (.int .i64 ((k : Int) + 1 + 1 + 1)) := K2.cell HX.out.2.2.2.1
        have C4 : w1.cell? ⟨g, off + q * 6 + 4, none⟩ = some (.bool (((k : Int) + 1 + 1 + 1 + 1) % 3 == 0)) := K2.cell HX.out.2.2.2.2.1
        have C5 : w1.cell? ⟨g, off + q * 6 + 5, none⟩ = some (.int .i64 ((k : Int) + 1 + 1 + 1 + 1 + 1)) := K2.cell HX.out.2.2.2.2.2
        go_wp2_with fail
        go_roundw
        case rel => exact ⟨q + 1, k + 6, by omega, by go_num, by first | (congr 1; omega) | congr 1, Lib.hid (by have := HK.out; omega), K2⟩
        case measure => simp [intOf]; omega
    · obtain rfl : q = n := by omega
      have HE : Hid ((k : Int) = (k0 : Int) + 6 * (q : Int)) := Lib.hid (by have := HK.out; omega)
      go_wp2_with fail
      go_ret
      exact ⟨by rw [HE.out]; rfl, kr⟩

set_option maxRecDepth 100000 in
set_option maxHeartbeats 4000000 in
theorem heldTerrainS_rd (A : Option Addr) (n cap : Nat) (l : List Ter) (k0 : Nat) (w : World) (hr : RdT w A n (mkTs k0 l)) (hl : l.length = n) (hn : n ≤ 1048576) (hb : ∀ x ∈ l, x.cost.length ≤ 1048576) (p1 : k0 ≤ 100000000000000) :
    Calls Tryz.prog 54 #[.slice A n cap, .int .i64 (k0 : Int)] w fun e w' => e = .returned (.int .i64 ((k0 : Int) + cntT l)) ∧ Kp w w' := by
  have HR := Lib.hid hr
  have HN := Lib.hid hl
  have HB := Lib.hid hb
  have HBQ := Lib.hid (fun (q : Nat) => cntT_bound (l.take q) (fun x hx => hb x (List.mem_of_mem_take hx)))
  clear hr hl hb
  go_enter Tryz.func54, Tryz.ntmps54
  go_wp2_with fail
  go_loopw [1, 5] (fun kk i wr => ∃ (q k : Nat), q ≤ n ∧ i = .int .i64 q ∧ kk = .int .i64 (k : Int) ∧ Hid ((k : Int) = k0 + cntT (l.take q)) ∧ Kp w wr) (fun _ i _ => n - (intOf i).toNat)
  case atStart => exact ⟨0, k0, by omega, rfl, rfl, Lib.hid (by simp [cntT]), Kp.refl _⟩
  case round =>
    obtain ⟨q, k, hq, rfl, rfl, HK, kr⟩ := hrel
    have hkb : k ≤ 200000000000000 := by
      have h1 := (HBQ.out q).2
      have h2 := HK.out
      rw [List.length_take] at h1
      omega
    by_cases hlt : q < n
    · have hlt' : (q : Int) < n := by omega
      obtain ⟨x, hx⟩ : ∃ x, l[q]? = some x := ⟨l[q]'(by have := HN.out; omega), List.getElem?_eq_getElem _⟩
      have hnc := HB.out x (List.mem_of_getElem? hx)
      obtain ⟨g, off, rfl, hc⟩ := HR.out.2 (by omega)
      have HKN : Hid (((k + 4 + x.cost.length : Nat) : Int) = k0 + cntT (l.take (q + 1))) := Lib.hid (by have := cntT_more hx; have := HK.out; omega)
      have HX : TerAt w g (off + q * 5) (mkT k x) := by
        have h := hc q _ (mkTs_at hx (k0 : Int))
        rw [← HK.out] at h
        exact h
      have hcost : (mkT k x).cost.length = x.cost.length := marksI_len _ _
      obtain ⟨Ac, cc, ⟨x0, x1, x2, x3, x4⟩, xr⟩ := HX
      rw [hcost] at x1 xr
      have X1 := Lib.hid x1
      have X2 : Hid (w.cell? ⟨g, off + q * 5 + 2, none⟩ = some (.int .i64 ((k : Int) + 1 + x.cost.length))) := Lib.hid x2
      have X3 : Hid (w.cell? ⟨g, off + q * 5 + 3, none⟩ = some (.int .i64 ((k : Int) + 1 + x.cost.length + 1))) := Lib.hid x3
      have X4 : Hid (w.cell? ⟨g, off + q * 5 + 4, none⟩ = some (.bool (((k : Int) + 1 + x.cost.length + 1 + 1) % 3 == 0))) := Lib.hid x4
      have XR : Hid (RdI w (.slice Ac x.cost.length cc) (marksI ((k : Int) + 1) x.cost.length)) := Lib.hid xr
      have c0 : wr.cell? ⟨g, off + q * 5, none⟩ = some (.string (mtx k)) := kr.cell x0
      clear x0 x1 x2 x3 x4 xr hc hcost hx
      generalize x.cost.length = nc at *
      have n1 : (((k : Int) + 1 + nc) != ((k : Int) + 1 + nc)) = false := by simp
      have n2 : (((k : Int) + 1 + nc + 1) != ((k : Int) + 1 + nc + 1)) = false := by simp
      have n4 : ((((k : Int) + 1 + nc + 1 + 1) % 3 == 0) != (((k : Int) + 1 + nc + 1 + 1) % 3 == 0)) = false := by simp
      go_wp2_with fail
      go_region_held3 (fun w' => w'.cell? ⟨g, off + q * 5, none⟩ = some (.string (mtx k))) (first | assumption | go_keep)
        (first | (go_at_call 80; refine (markText_mtx k _ (by omega)).mono ?_; rintro e w1 ⟨rfl, k1⟩; have s1 : w1.cell? ⟨g, off + q * 5, none⟩ = some (.string (mtx k)) := k1.cell (by assumption)))
      all_goals
        have K2 := kr.drew.trans k1
        have C1 := K2.cell X1.out
        go_wp2_with fail
        refine (heldIntS_rd _ nc ((k : Int) + 1) _ (by omega) (by omega) hnc (XR.out.keep K2)).mono ?_
        rintro e2 w2 ⟨rfl, k2⟩
        have K3 := K2.trans k2
        have C2 := K3.cell X2.out
        have C3 := K3.cell X3.out
        have C4 := K3.cell X4.out
        clear C1 k2
        go_wp2_with fail
        go_roundw
        case rel => exact ⟨q + 1, k + 4 + nc, by omega, by go_num, by congr 1; omega, HKN, K3⟩
        case measure => simp [intOf]; omega
    · obtain rfl : q = n := by omega
      have HE : Hid ((k : Int) = (k0 : Int) + cntT l) := Lib.hid (by
        have h := HK.out
        rw [List.take_of_length_le (by have := HN.out; omega)] at h
        exact h)
      go_wp2_with fail
      go_ret
      exact ⟨by rw [HE.out]; rfl, kr⟩

end Go.Proofs.YtmolpkjdjkhnpaaGreatDoor

/-
  The laws' marks of boards, and their look at the marks of rules, maps and boards: what holds the marks is found to hold them.
-/
namespace Go.Proofs.YtmolpkjdjkhnpaaGreatDoor
open Go.RowKit

/-- The twelve cells of a boxed board. -/
abbrev Cell12 (w : World) (b : Nat) (v0 v1 v2 v3 v4 v5 v6 v7 v8 v9 v10 v11 : Value) : Prop := w.cell? ⟨b, 0, none⟩ = some v0 ∧ w.cell? ⟨b, 1, none⟩ = some v1 ∧ w.cell? ⟨b, 2, none⟩ = some v2 ∧ w.cell? ⟨b, 3, none⟩ = some v3 ∧ w.cell? ⟨b, 4, none⟩ = some v4 ∧ w.cell? ⟨b, 5, none⟩ = some v5 ∧ w.cell? ⟨b, 6, none⟩ = some v6 ∧ w.cell? ⟨b, 7, none⟩ = some v7 ∧ w.cell? ⟨b, 8, none⟩ = some v8 ∧ w.cell? ⟨b, 9, none⟩ = some v9 ∧ w.cell? ⟨b, 10, none⟩ = some v10 ∧ w.cell? ⟨b, 11, none⟩ = some v11
theorem new12 (w : World) (v0 v1 v2 v3 v4 v5 v6 v7 v8 v9 v10 v11 : Value) (T : TypeId) : Cell12 (w.alloc (.cells #[v0, v1, v2, v3, v4, v5, v6, v7, v8, v9, v10, v11] T)) w.heap.size v0 v1 v2 v3 v4 v5 v6 v7 v8 v9 v10 v11 := ⟨by simp [go_sem], by simp [go_sem], by simp [go_sem], by simp [go_sem], by simp [go_sem], by simp [go_sem], by simp [go_sem], by simp [go_sem], by simp [go_sem], by simp [go_sem], by simp [go_sem], by simp [go_sem]⟩
theorem cell12_keep {w w' : World} {b : Nat} {v0 v1 v2 v3 v4 v5 v6 v7 v8 v9 v10 v11 : Value} (k : Kp w w') (h : Cell12 w b v0 v1 v2 v3 v4 v5 v6 v7 v8 v9 v10 v11) : Cell12 w' b v0 v1 v2 v3 v4 v5 v6 v7 v8 v9 v10 v11 := ⟨k.cell h.1, k.cell h.2.1, k.cell h.2.2.1, k.cell h.2.2.2.1, k.cell h.2.2.2.2.1, k.cell h.2.2.2.2.2.1, k.cell h.2.2.2.2.2.2.1, k.cell h.2.2.2.2.2.2.2.1, k.cell h.2.2.2.2.2.2.2.2.1, k.cell h.2.2.2.2.2.2.2.2.2.1, k.cell h.2.2.2.2.2.2.2.2.2.2.1, k.cell h.2.2.2.2.2.2.2.2.2.2.2⟩
theorem cell12_high {lo hi : Nat} {w w' : World} {b : Nat} {v0 v1 v2 v3 v4 v5 v6 v7 v8 v9 v10 v11 : Value} (m : Mk lo hi w w') (hb : hi ≤ b) (h : Cell12 w b v0 v1 v2 v3 v4 v5 v6 v7 v8 v9 v10 v11) : Cell12 w' b v0 v1 v2 v3 v4 v5 v6 v7 v8 v9 v10 v11 := ⟨m.cell_hi hb h.1, m.cell_hi hb h.2.1, m.cell_hi hb h.2.2.1, m.cell_hi hb h.2.2.2.1, m.cell_hi hb h.2.2.2.2.1, m.cell_hi hb h.2.2.2.2.2.1, m.cell_hi hb h.2.2.2.2.2.2.1, m.cell_hi hb h.2.2.2.2.2.2.2.1, m.cell_hi hb h.2.2.2.2.2.2.2.2.1, m.cell_hi hb h.2.2.2.2.2.2.2.2.2.1, m.cell_hi hb h.2.2.2.2.2.2.2.2.2.2.1, m.cell_hi hb h.2.2.2.2.2.2.2.2.2.2.2⟩

set_option maxRecDepth 100000 in
set_option maxHeartbeats 4000000 in
theorem heldRules_rd (A1 A2 : Option Addr) (nt nk ct ck : Nat) (l : List Ter) (a b c d e : Int) (k0 : Nat) (w : World) (r1 : RdT w A1 nt (mkTs k0 l)) (r2 : RdK w A2 nk (mkKs ((k0 : Int) + cntT l) nk)) (hl : l.length = nt) (hb1 : nt ≤ 1048576) (hb2 : nk ≤ 1048576) (hb : ∀ x ∈ l, x.cost.length ≤ 1048576) (p1 : k0 ≤ 100000000000000) :
    Calls Tryz.prog 25 #[rv (.slice A1 nt ct) (.slice A2 nk ck) a b c d e, .int .i64 (k0 : Int)] w fun e' w' => e' = .returned (.int .i64 ((k0 : Int) + cntT l + 6 * (nk : Int))) ∧ Kp w w' := by
  have KA : Kp w (w.alloc (.cells #[.slice A1 nt ct, .slice A2 nk ck, .int .i64 a, .int .i64 b, .int .i64 c, .int .i64 d, .int .i64 e] 35)) := (Kp.refl w).alloc _
  have q1 : (w.alloc (.cells #[.slice A1 nt ct, .slice A2 nk ck, .int .i64 a, .int .i64 b, .int .i64 c, .int .i64 d, .int .i64 e] 35)).cell? ⟨w.heap.size, 1, none⟩ = some (.slice A2 nk ck) := by simp [go_sem]
  have R1 := Lib.hid (r1.keep KA)
  have HL := Lib.hid hl
  have HB := Lib.hid hb
  have hcn := cntT_bound l hb
  rw [hl] at hcn
  obtain ⟨kc, hkc⟩ : ∃ kc : Nat, (kc : Int) = k0 + cntT l := ⟨(k0 + cntT l).toNat, by omega⟩
  have hkc2 : kc ≤ 200000000000000 := by omega
  have R2 : Hid (RdK (w.alloc (.cells #[.slice A1 nt ct, .slice A2 nk ck, .int .i64 a, .int .i64 b, .int .i64 c, .int .i64 d, .int .i64 e] 35)) A2 nk (mkKs (kc : Int) nk)) := Lib.hid (by rw [hkc]; exact r2.keep KA)
  have HKC := Lib.hid hkc
  clear r1 r2 hl hb hcn hkc
  go_enter Tryz.func25, Tryz.ntmps25
  go_wp2_with fail
  refine (heldTerrainS_rd A1 nt ct l k0 _ R1.out HL.out hb1 HB.out p1).mono ?_
  rintro e1 w1 ⟨rfl, k1⟩
  have q2 := k1.cell q1
  have S2 := Lib.hid (R2.out.keep k1)
  have K1 := KA.trans k1
  clear q1 R1 R2 k1
  rw [← HKC.out]
  go_wp2_with fail
  refine (heldKindS_rd A2 nk ck kc _ S2.out hb2 hkc2).mono ?_
  rintro e2 w2 ⟨rfl, k2⟩
  have K2 := K1.trans k2
  clear q2 S2 k2
  go_wp2_with fail
  go_ret
  rw [← HKC.out]
  exact ⟨rfl, K2⟩

/-- The three lists of a map read as the marks from k on. -/
structure ReadsM (w : World) (t r d : Value) (nt nr nd : Nat) (k : Int) : Prop where
  rt : RdI w t (marksI k nt)
  rr : RdI w r (marksI (k + nt) nr)
  rd : RdI w d (marksI (k + nt + nr) nd)
theorem ReadsM.keep {w w' : World} {t r d : Value} {nt nr nd : Nat} {k : Int} (h : ReadsM w t r d nt nr nd k) (kp : Kp w w') : ReadsM w' t r d nt nr nd k :=
  ⟨h.rt.keep kp, h.rr.keep kp, h.rd.keep kp⟩
theorem MarksM.rd {w : World} {base : Nat} {t r d : Value} {nt nr nd : Nat} {k : Int} (h : MarksM w base t r d nt nr nd k) : ReadsM w t r d nt nr nd k :=
  ⟨h.ot.rd, h.or.rd, h.od.rd⟩

set_option maxRecDepth 100000 in
set_option maxHeartbeats 4000000 in
theorem heldMap_rd (W H : Int) (t r d : Value) (nt nr nd : Nat) (k0 : Int) (w : World) (ho : ReadsM w t r d nt nr nd k0) (b1 : nt ≤ 1048576) (b2 : nr ≤ 1048576) (b3 : nd ≤ 1048576) (p0 : 0 ≤ k0) (p1 : k0 ≤ 500000000000000) :
    Calls Tryz.prog 26 #[mp W H t r d, .int .i64 k0] w fun e w' => e = .returned (.int .i64 (k0 + nt + nr + nd)) ∧ Kp w w' := by
  have s0 := new5 w (.int .i64 W) (.int .i64 H) t r d 36
  have O := Lib.hid (ho.keep s0.2.2.2.2.2)
  clear ho
  go_enter Tryz.func26, Tryz.ntmps26
  go_wp2_with fail
  refine (heldIntS_rd _ _ _ _ (by omega) (by omega) b1 O.out.rt).mono ?_
  rintro e1 wa ⟨rfl, ka⟩
  have sa := keep5 ka s0
  have OA := Lib.hid (O.out.keep ka)
  clear s0 O ka
  go_wp2_with fail
  refine (heldIntS_rd _ _ _ _ (by omega) (by omega) b2 OA.out.rr).mono ?_
  rintro e2 wb ⟨rfl, kb⟩
  have sb := keep5 kb sa
  have OB := Lib.hid (OA.out.keep kb)
  clear sa OA kb
  go_wp2_with fail
  refine (heldIntS_rd _ _ _ _ (by omega) (by omega) b3 OB.out.rd).mono ?_
  rintro e3 wc ⟨rfl, kc⟩
  have sc := keep5 kc sb
  clear sb OB kc
  go_wp2_with fail
  go_ret
  exact ⟨rfl, sc.2.2.2.2.2⟩

set_option maxRecDepth 100000 in
set_option maxHeartbeats 4000000 in
theorem heldBoard_rd (A1 A2 : Option Addr) (nt nk ct ck : Nat) (l : List Ter) (a b c d e W H : Int) (x r y : Value) (mt mr md k0 : Nat) (w : World) (r1 : RdT w A1 nt (mkTs k0 l)) (r2 : RdK w A2 nk (mkKs ((k0 : Int) + cntT l) nk)) (r3 : ReadsM w x r y mt mr md ((k0 : Int) + cntT l + 6 * (nk : Int))) (hl : l.length = nt) (hb1 : nt ≤ 1048576) (hb2 : nk ≤ 1048576) (hb : ∀ x ∈ l, x.cost.length ≤ 1048576) (b1 : mt ≤ 1048576) (b2 : mr ≤ 1048576) (b3 : md ≤ 1048576) (p1 : k0 ≤ 100000000000000) :
    Calls Tryz.prog 10 #[bv (.slice A1 nt ct) (.slice A2 nk ck) a b c d e W H x r y, .int .i64 (k0 : Int)] w fun e' w' => e' = .returned (.int .i64 ((k0 : Int) + cntT l + 6 * (nk : Int) + mt + mr + md)) ∧ Kp w w' := by
  have KA : Kp w (w.alloc (.cells #[.slice A1 nt ct, .slice A2 nk ck, .int .i64 a, .int .i64 b, .int .i64 c, .int .i64 d, .int .i64 e, .int .i64 W, .int .i64 H, x, r, y] 38)) := (Kp.refl w).alloc _
  obtain ⟨s0, s1, s2, s3, s4, s5, s6, s7, s8, s9, s10, s11⟩ := new12 w (.slice A1 nt ct) (.slice A2 nk ck) (.int .i64 a) (.int .i64 b) (.int .i64 c) (.int .i64 d) (.int .i64 e) (.int .i64 W) (.int .i64 H) x r y 38
  have S := Lib.hid (new12 w (.slice A1 nt ct) (.slice A2 nk ck) (.int .i64 a) (.int .i64 b) (.int .i64 c) (.int .i64 d) (.int .i64 e) (.int .i64 W) (.int .i64 H) x r y 38)
  have R1 := Lib.hid (r1.keep KA)
  have R2 := Lib.hid (r2.keep KA)
  have R3 := Lib.hid (r3.keep KA)
  have HB := Lib.hid hb
  have HL := Lib.hid hl
  have hcn := cntT_bound l hb
  rw [hl] at hcn
  clear r1 r2 r3 hb hl
  generalize hK : (k0 : Int) + cntT l + 6 * (nk : Int) = kq at R3 ⊢
  have HKQ := Lib.hid hK
  have hkq0 : 0 ≤ kq := by omega
  have hkq1 : kq ≤ 200000000000000 := by omega
  clear hcn hK
  go_enter Tryz.func10, Tryz.ntmps10
  go_wp2_with fail
  refine (heldRules_rd A1 A2 nt nk ct ck l a b c d e k0 _ R1.out R2.out HL.out hb1 hb2 HB.out p1).mono ?_
  rintro e1 w1 ⟨rfl, k1⟩
  rw [HKQ.out]
  have T := cell12_keep k1 S.out
  clear s0 s1 s2 s3 s4 s5 s6 s7 s8 s9 s10 s11
  obtain ⟨s0, s1, s2, s3, s4, s5, s6, s7, s8, s9, s10, s11⟩ := T
  have S3 := Lib.hid (R3.out.keep k1)
  have K1 := KA.trans k1
  clear R1 R2 R3 S k1
  go_wp2_with fail
  refine (heldMap_rd W H x r y mt mr md kq _ S3.out b1 b2 b3 hkq0 (by omega)).mono ?_
  rintro e2 w2 ⟨rfl, k2⟩
  have K2 := K1.trans k2
  clear s0 s1 s2 s3 s4 s5 s6 s7 s8 s9 s10 s11 S3 k2
  go_wp2_with fail
  go_ret
  exact ⟨rfl, K2⟩

end Go.Proofs.YtmolpkjdjkhnpaaGreatDoor

/-
  The laws' marks of boards: what the cells hold behind them.
-/
namespace Go.Proofs.YtmolpkjdjkhnpaaGreatDoor
open Go.RowKit

set_option maxRecDepth 100000 in
set_option maxHeartbeats 4000000 in
theorem markBoard_own (lo mid hi top g1 g2 nt nk ct ck : Nat) (l : List Ter) (m : List Knd) (cs : List (Option Addr × Nat)) (ys zs : List Value) (a b c d e W H : Int) (x r y : Value) (lt lr ld : List Int) (k0 : Nat) (w : World) (ht : TerB w lo mid g1 nt ct l cs ys) (hk : KndB w mid hi g2 nk ck m zs) (ho : Own3 w hi x r y lt lr ld)
    (hb1 : nt ≤ 1048576) (hb2 : nk ≤ 1048576) (hb : ∀ x ∈ l, x.cost.length ≤ 1048576) (hm : mapSm lt lr ld) (hlo : lo ≤ mid) (hmid : mid ≤ hi) (hht : hi ≤ top) (htop : top ≤ w.heap.size) (i1 : ∀ g, x.ownBlock = some g → g < top) (i2 : ∀ g, r.ownBlock = some g → g < top) (i3 : ∀ g, y.ownBlock = some g → g < top) (p1 : k0 ≤ 100000000000000) :
    Calls Tryz.prog 9 #[bv (.slice (some ⟨g1, 0, none⟩) nt ct) (.slice (some ⟨g2, 0, none⟩) nk ck) a b c d e W H x r y, .int .i64 (k0 : Int)] w fun e' w' => e' = .returned (.int .i64 ((k0 : Int) + cntT l + 6 * (nk : Int) + lt.length + lr.length + ld.length)) ∧ (∃ ys', TerB w' lo mid g1 nt ct (mkTs k0 l) cs ys') ∧ (∃ zs', KndB w' mid hi g2 nk ck (mkKs ((k0 : Int) + cntT l) nk) zs') ∧ MarksM w' hi x r y lt.length lr.length ld.length ((k0 : Int) + cntT l + 6 * (nk : Int)) ∧ Mk lo top w w' := by
  have KA : Kp w (w.alloc (.cells #[.slice (some ⟨g1, 0, none⟩) nt ct, .slice (some ⟨g2, 0, none⟩) nk ck, .int .i64 a, .int .i64 b, .int .i64 c, .int .i64 d, .int .i64 e, .int .i64 W, .int .i64 H, x, r, y] 38)) := (Kp.refl w).alloc _
  obtain ⟨s0, s1, s2, s3, s4, s5, s6, s7, s8, s9, s10, s11⟩ := new12 w (.slice (some ⟨g1, 0, none⟩) nt ct) (.slice (some ⟨g2, 0, none⟩) nk ck) (.int .i64 a) (.int .i64 b) (.int .i64 c) (.int .i64 d) (.int .i64 e) (.int .i64 W) (.int .i64 H) x r y 38
  have S := Lib.hid (new12 w (.slice (some ⟨g1, 0, none⟩) nt ct) (.slice (some ⟨g2, 0, none⟩) nk ck) (.int .i64 a) (.int .i64 b) (.int .i64 c) (.int .i64 d) (.int .i64 e) (.int .i64 W) (.int .i64 H) x r y 38)
  have HT := Lib.hid (ht.keep KA)
  have HK := Lib.hid (hk.keep KA)
  have HO := Lib.hid (ho.keep KA)
  have HB := Lib.hid hb
  have HM := Lib.hid hm
  have hcn := cntT_bound l hb
  rw [ht.lt] at hcn
  have I1 := Lib.hid i1
  have I2 := Lib.hid i2
  have I3 := Lib.hid i3
  have hzA : w.heap.size ≤ (w.alloc (.cells #[.slice (some ⟨g1, 0, none⟩) nt ct, .slice (some ⟨g2, 0, none⟩) nk ck, .int .i64 a, .int .i64 b, .int .i64 c, .int .i64 d, .int .i64 e, .int .i64 W, .int .i64 H, x, r, y] 38)).heap.size := KA.size
  clear ht hk ho hb hm i1 i2 i3
  generalize hK : (k0 : Int) + cntT l + 6 * (nk : Int) = kq
  have HKQ := Lib.hid hK
  have hkq0 : 0 ≤ kq := by omega
  have hkq1 : kq ≤ 200000000000000 := by omega
  clear hcn hK
  go_enter Tryz.func9, Tryz.ntmps9
  go_wp2_with fail
  refine (markRules_own lo mid hi g1 g2 nt nk ct ck l m cs ys zs a b c d e k0 _ HT.out HK.out hb1 hb2 HB.out hlo (by omega) (by omega) p1).mono ?_
  rintro e1 w1 ⟨rfl, t1, z1, m1⟩
  rw [HKQ.out]
  have T := cell12_high m1 (by omega) S.out
  clear s0 s1 s2 s3 s4 s5 s6 s7 s8 s9 s10 s11
  obtain ⟨s0, s1, s2, s3, s4, s5, s6, s7, s8, s9, s10, s11⟩ := T
  have O1 := Lib.hid (HO.out.marked m1 (Nat.le_refl _))
  have T1 := Lib.hid t1
  have Z1 := Lib.hid z1
  have M1 : Mk lo top w w1 := (Mk.of_kp KA (by omega)).trans (m1.wide hht)
  have hz1 := m1.1.size
  clear S m1 t1 z1 HT HK HO
  go_wp2_with fail
  refine (markMap_own W H x r y lt lr ld lt.length lr.length ld.length hi top kq _ O1.out rfl rfl rfl HM.out.1 HM.out.2.1 HM.out.2.2 (by omega) I1.out I2.out I3.out hkq0 (by omega)).mono ?_
  rintro e2 w2 ⟨rfl, mm, m2⟩
  have T2 : Hid (∃ ys', TerB w2 lo mid g1 nt ct (mkTs k0 l) cs ys') := Lib.hid (by
    obtain ⟨ys', h⟩ := T1.out
    exact ⟨ys', h.low m2.1 hmid⟩)
  have Z2 : Hid (∃ zs', KndB w2 mid hi g2 nk ck (mkKs ((k0 : Int) + cntT l) nk) zs') := Lib.hid (by
    obtain ⟨zs', h⟩ := Z1.out
    exact ⟨zs', h.low m2.1 (Nat.le_refl _)⟩)
  have M2 : Mk lo top w w2 := M1.trans ⟨Below.mono m2.1 (by omega), m2.2⟩
  have MM := Lib.hid mm
  clear s0 s1 s2 s3 s4 s5 s6 s7 s8 s9 s10 s11 m2 mm T1 Z1 O1 M1
  go_wp2_with fail
  go_ret
  exact ⟨rfl, T2.out, Z2.out, MM.out, M2⟩

end Go.Proofs.YtmolpkjdjkhnpaaGreatDoor

/-
  A store into a list of integers that the call owns; a new list of zeros.
-/
namespace Go.Proofs.YtmolpkjdjkhnpaaGreatDoor
open Go.RowKit

theorem cellsI_set (l : List Int) (k : Nat) (x : Int) : cellsI (l.set k x) = (cellsI l).set k (.int .i64 x) := by simp [cellsI, List.map_set]
theorem cellsI_zero (n : Nat) : (madeCells #[.int .i64 0] n).toList = cellsI (List.replicate n 0) := by
  apply List.ext_getElem?
  intro i
  by_cases h : i < n
  · have : i % 1 = 0 := Nat.mod_one i
    simp [madeCells, cellsI, h, this]
  · simp [madeCells, cellsI, h]
/-- The cell at k, that it may be written, and what is owned when it has been. -/
theorem OwnI.put {w : World} {base n g cap : Nat} {l : List Int} (h : OwnI w base (.slice (some ⟨g, 0, none⟩) n cap) l) (hn : l.length = n) {k : Nat} (hk : k < n) (x : Int) :
    (∃ u, w.cell? ⟨g, k, none⟩ = some u) ∧ w.frozen? ⟨g, k, none⟩ = false ∧ OwnI (w.setCell ⟨g, k, none⟩ (.int .i64 x)) base (.slice (some ⟨g, 0, none⟩) n cap) (l.set k x) := by
  subst hn
  have ho : w.ownsRow base 3 1 (.slice (some ⟨g, 0, none⟩) l.length cap) l.length (cellsI l) := h
  have hlen : (cellsI l).length = l.length * 1 := ho.1
  refine ⟨⟨_, (ho.cellAt k (by omega)).trans (List.getElem?_eq_getElem (by omega))⟩, ho.frozenAt k, ?_⟩
  have o1 := (ho.stored k (.int .i64 x)).1
  unfold OwnI
  rw [cellsI_set, List.length_set]
  exact o1

theorem ownI_zero (w : World) (n : Nat) (hn : n ≤ 1048576) : OwnI (w.alloc (.cells (madeCells #[.int .i64 0] n) 3)) w.heap.size (.slice (some ⟨w.heap.size, 0, none⟩) n n) (List.replicate n 0) := by
  have own0 : (w.alloc (.cells (madeCells #[.int .i64 0] n) 3)).ownsRow w.heap.size 3 1 (.slice (some ⟨w.heap.size, 0, none⟩) n n) n (madeCells #[.int .i64 0] n).toList :=
    World.ownsRow_lit w _ n (Nat.le_refl _) (by simp only [maxLen]; omega) (by rw [size_madeCells, Nat.mul_one])
  rw [cellsI_zero] at own0
  unfold OwnI
  rw [List.length_replicate]
  exact own0

end Go.Proofs.YtmolpkjdjkhnpaaGreatDoor

/-
  The mirrored index, the program's and the reference's: what a plain function says. Nothing that was there is changed.
-/
namespace Go.Proofs.YtmolpkjdjkhnpaaGreatDoor
open Go.RowKit

theorem mir_bd {W H i : Int} (a : 1 ≤ W) (b : W ≤ 10) (c : 1 ≤ H) (e : H ≤ 10) (h0 : 0 ≤ i) (h1 : i < W * H) : (0 ≤ i % W * H ∧ i % W * H ≤ 2000) ∧ 0 ≤ mirI W H i ∧ mirI W H i < W * H := by
  have hb := hex_bd a b h0 h1
  have m := mul_bd c e (r := i % W) (by omega) (by omega)
  have p : 0 ≤ i % W * H := Int.mul_nonneg hb.1 (by omega)
  have := idx_bd (W := H) (H := W) (q := i / W) (r := i % W) (inM_mk hb.2.2.1 hb.2.2.2 hb.1 hb.2.1)
  unfold idxM at this
  rw [Int.mul_comm H W] at this
  unfold mirI
  exact ⟨⟨p, m.2⟩, this.1, this.2⟩

theorem mirrorIndex_any (W H : Int) (t r d : Value) (i : Int) (w : World) (a : 1 ≤ W) (b : W ≤ 10) (c : 1 ≤ H) (e : H ≤ 10) (h0 : 0 ≤ i) (h1 : i < W * H) :
    Calls Tryz.prog 43 #[mp W H t r d, .int .i64 i] w fun e w' => e = .returned (.int .i64 (mirI W H i)) ∧ Kp w w' := by
  have hA := area_bd a b c e
  have hb := hex_bd a b h0 h1
  have hm := mir_bd a b c e h0 h1
  unfold mirI at hm ⊢
  have s0 := new5 w (.int .i64 W) (.int .i64 H) t r d 36
  go_enter Tryz.func43, Tryz.ntmps43
  go_wp2_with fail
  refine (hexWithIndex_any _ _ _ _ _ _ _ a b h0 (by omega)).mono ?_
  rintro e1 w1 ⟨rfl, k1⟩
  have s1 := keep5 (k1.trans ((Kp.refl w1).alloc (.cells #[.int .i64 (i % W), .int .i64 (i / W)] 92))) s0
  clear s0 k1
  go_wp2_with fail
  go_ret
  exact ⟨rfl, s1.2.2.2.2.2⟩

theorem mMirrorIndex_any (W H : Int) (t r d : Value) (i : Int) (w : World) (a : 1 ≤ W) (b : W ≤ 10) (c : 1 ≤ H) (e : H ≤ 10) (h0 : 0 ≤ i) (h1 : i < W * H) :
    Calls Tryz.prog 35 #[mp W H t r d, .int .i64 i] w fun e w' => e = .returned (.int .i64 (mirI W H i)) ∧ Kp w w' := by
  have hA := area_bd a b c e
  have hb := hex_bd a b h0 h1
  have hm := mir_bd a b c e h0 h1
  unfold mirI at hm ⊢
  have s0 := new5 w (.int .i64 W) (.int .i64 H) t r d 36
  go_enter Tryz.func35, Tryz.ntmps35
  go_wp2_with fail
  refine (mHex_any _ _ _ _ _ _ _ a b h0 (by omega)).mono ?_
  rintro e1 w1 ⟨rfl, k1⟩
  have s1 := keep5 (k1.trans ((Kp.refl w1).alloc (.cells #[.int .i64 (i % W), .int .i64 (i / W)] 92))) s0
  clear s0 k1
  go_wp2_with fail
  go_ret
  exact ⟨rfl, s1.2.2.2.2.2⟩

end Go.Proofs.YtmolpkjdjkhnpaaGreatDoor
