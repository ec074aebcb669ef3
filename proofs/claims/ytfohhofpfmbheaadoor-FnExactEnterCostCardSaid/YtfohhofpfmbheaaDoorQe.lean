/-
  Texts of this seat in one module: BrdL, MarkN, MarkI, Mk, BrdW, BrdX, TabS, RowC, MapH, Dist, NearOnF, NearOnG, OwnB, NearI, Cells, HH, Line, LineS, LineMath, II, PutI.
-/
import Derived.Laws.BytesArg
import Derived.Deep.QuietTactic
import Derived.BigQuiet
import Derived.IntWalk
import Derived.Test.YtfohhofpfmbheaaDoorQa
import Derived.Test.YtfohhofpfmbheaaDoorQb
import Derived.Test.YtfohhofpfmbheaaDoorQc
import Derived.Test.YtfohhofpfmbheaaDoorQd

/-
  The laws' functions on boards: sizes, copies in memory of their own, the comparison of two that hold the same; an argument of type Board. Nothing that was there is changed.
-/
namespace Go.Proofs.YtfohhofpfmbheaaDoor
open Go.ChangeShapes Go.WideShapes Go.ChangeAt Go.RowKit Go.Joins Go.Deep

def mapSm (lt lr ld : List Int) : Prop := lt.length ≤ 1048576 ∧ lr.length ≤ 1048576 ∧ ld.length ≤ 1048576
theorem Reads.lists' {w : World} {t r d : Value} {lt lr ld : List Int} (h : Reads w t r d lt lr ld) (s : mapSm lt lr ld) : Lists w t r d lt lr ld :=
  ⟨h.rt, h.rr, h.rd, s.1, s.2.1, s.2.2, h.it, h.ir, h.id⟩
theorem Reads.keep {w w' : World} {t r d : Value} {lt lr ld : List Int} (h : Reads w t r d lt lr ld) (k : Kp w w') : Reads w' t r d lt lr ld :=
  ⟨h.rt.keep k, h.rr.keep k, h.rd.keep k, h.bt, h.br, h.bd, h.it, h.ir, h.id⟩

set_option maxHeartbeats 1000000 in
theorem szMap_gen (W H : Int) (At Ar Ad : Option Addr) (nt ct nr cr nd cd : Nat) (left : Int) (w : World) (h0 : 0 ≤ left) (hL : left ≤ 1048576) (h1 : nt ≤ 9223372036854775807) (h2 : nr ≤ 9223372036854775807) (h3 : nd ≤ 9223372036854775807) :
    Calls Tryd.prog 23 #[mp W H (.slice At nt ct) (.slice Ar nr cr) (.slice Ad nd cd), .int .i64 left] w (SzPost (nt ≤ 1048576 ∧ nr ≤ 1048576 ∧ nd ≤ 1048576) w) := by
  by_cases a1 : (nt : Int) ≤ left
  · by_cases a2 : (nr : Int) ≤ left - nt
    · by_cases a3 : (nd : Int) ≤ left - nt - nr
      · go_enter Tryd.func23, Tryd.ntmps23
        go_wp2_with fail
        refine (szIntS_yes _ _ _ _ _ (by omega) (by omega) (by omega)).mono ?_
        rintro e1 w1 ⟨rfl, rfl⟩
        go_wp2_with fail
        refine (szIntS_yes _ _ _ _ _ (by omega) (by omega) (by omega)).mono ?_
        rintro e1 w1 ⟨rfl, rfl⟩
        go_wp2_with fail
        refine (szIntS_yes _ _ _ _ _ (by omega) (by omega) (by omega)).mono ?_
        rintro e1 w1 ⟨rfl, rfl⟩
        go_wp2_with fail
        go_ret
        exact ⟨_, rfl, by omega, by omega, fun _ => ⟨by omega, by omega, by omega⟩, (Kp.refl _).alloc _⟩
      · go_enter Tryd.func23, Tryd.ntmps23
        go_wp2_with fail
        refine (szIntS_yes _ _ _ _ _ (by omega) (by omega) (by omega)).mono ?_
        rintro e1 w1 ⟨rfl, rfl⟩
        go_wp2_with fail
        refine (szIntS_yes _ _ _ _ _ (by omega) (by omega) (by omega)).mono ?_
        rintro e1 w1 ⟨rfl, rfl⟩
        go_wp2_with fail
        refine (szIntS_no _ _ _ _ _ (by omega) (by omega) (by omega) (by omega)).mono ?_
        rintro e1 w1 ⟨rfl, rfl⟩
        go_wp2_with fail
        go_ret
        exact ⟨_, rfl, by omega, by omega, fun h => absurd h (by omega), (Kp.refl _).alloc _⟩
    · go_enter Tryd.func23, Tryd.ntmps23
      go_wp2_with fail
      refine (szIntS_yes _ _ _ _ _ (by omega) (by omega) (by omega)).mono ?_
      rintro e1 w1 ⟨rfl, rfl⟩
      go_wp2_with fail
      refine (szIntS_no _ _ _ _ _ (by omega) (by omega) (by omega) (by omega)).mono ?_
      rintro e1 w1 ⟨rfl, rfl⟩
      go_wp2_with fail
      go_ret
      exact ⟨_, rfl, by omega, by omega, fun h => absurd h (by omega), (Kp.refl _).alloc _⟩
  · go_enter Tryd.func23, Tryd.ntmps23
    go_wp2_with fail
    refine (szIntS_no _ _ _ _ _ (by omega) (by omega) (by omega) (by omega)).mono ?_
    rintro e1 w1 ⟨rfl, rfl⟩
    go_wp2_with fail
    go_ret
    exact ⟨_, rfl, by omega, by omega, fun h => absurd h (by omega), (Kp.refl _).alloc _⟩

/-- What an argument's board is: rules and three lists, within Go's own bounds. -/
structure BrdIn (w : World) (At Ak : Option Addr) (nt nk : Nat) (l : List Ter) (m : List Knd) (x r y : Value) (lt lr ld : List Int) : Prop where
  R : RulIn w At Ak nt nk l m
  L : Reads w x r y lt lr ld
theorem BrdIn.keep {w w' : World} {At Ak : Option Addr} {nt nk : Nat} {l : List Ter} {m : List Knd} {x r y : Value} {lt lr ld : List Int} (h : BrdIn w At Ak nt nk l m x r y lt lr ld) (k : Kp w w') : BrdIn w' At Ak nt nk l m x r y lt lr ld :=
  ⟨h.R.keep k, h.L.keep k⟩
def brdSm (nt nk : Nat) (l : List Ter) (m : List Knd) (lt lr ld : List Int) : Prop := rulSm nt nk l m ∧ mapSm lt lr ld
theorem BrdIn.at {w : World} {At Ak : Option Addr} {nt nk : Nat} {l : List Ter} {m : List Knd} {x r y : Value} {lt lr ld : List Int} (h : BrdIn w At Ak nt nk l m x r y lt lr ld) (s : brdSm nt nk l m lt lr ld) : BrdAt w At Ak nt nk l m x r y lt lr ld :=
  ⟨h.R.at s.1, h.L.lists' s.2⟩

set_option maxRecDepth 100000 in
set_option maxHeartbeats 4000000 in
theorem szBoard_any (At Ak : Option Addr) (nt nk ct ck : Nat) (l : List Ter) (m : List Knd) (a b c d e W H : Int) (x r y : Value) (lt lr ld : List Int) (left : Int) (w : World) (h : BrdIn w At Ak nt nk l m x r y lt lr ld) (h0 : 0 ≤ left) (hL : left ≤ 1048576) :
    Calls Tryd.prog 7 #[bv (.slice At nt ct) (.slice Ak nk ck) a b c d e W H x r y, .int .i64 left] w (SzPost (brdSm nt nk l m lt lr ld) w) := by
  have KA : Kp w (w.alloc (.cells #[.slice At nt ct, .slice Ak nk ck, .int .i64 a, .int .i64 b, .int .i64 c, .int .i64 d, .int .i64 e, .int .i64 W, .int .i64 H, x, r, y] 30)) := (Kp.refl w).alloc _
  have s0 : (w.alloc (.cells #[.slice At nt ct, .slice Ak nk ck, .int .i64 a, .int .i64 b, .int .i64 c, .int .i64 d, .int .i64 e, .int .i64 W, .int .i64 H, x, r, y] 30)).cell? ⟨w.heap.size, 0, none⟩ = some (.slice At nt ct) ∧ (w.alloc (.cells #[.slice At nt ct, .slice Ak nk ck, .int .i64 a, .int .i64 b, .int .i64 c, .int .i64 d, .int .i64 e, .int .i64 W, .int .i64 H, x, r, y] 30)).cell? ⟨w.heap.size, 1, none⟩ = some (.slice Ak nk ck) ∧ (w.alloc (.cells #[.slice At nt ct, .slice Ak nk ck, .int .i64 a, .int .i64 b, .int .i64 c, .int .i64 d, .int .i64 e, .int .i64 W, .int .i64 H, x, r, y] 30)).cell? ⟨w.heap.size, 2, none⟩ = some (.int .i64 a) ∧ (w.alloc (.cells #[.slice At nt ct, .slice Ak nk ck, .int .i64 a, .int .i64 b, .int .i64 c, .int .i64 d, .int .i64 e, .int .i64 W, .int .i64 H, x, r, y] 30)).cell? ⟨w.heap.size, 3, none⟩ = some (.int .i64 b) ∧ (w.alloc (.cells #[.slice At nt ct, .slice Ak nk ck, .int .i64 a, .int .i64 b, .int .i64 c, .int .i64 d, .int .i64 e, .int .i64 W, .int .i64 H, x, r, y] 30)).cell? ⟨w.heap.size, 4, none⟩ = some (.int .i64 c) ∧ (w.alloc (.cells #[.slice At nt ct, .slice Ak nk ck, .int .i64 a, .int .i64 b, .int .i64 c, .int .i64 d, .int .i64 e, .int .i64 W, .int .i64 H, x, r, y] 30)).cell? ⟨w.heap.size, 5, none⟩ = some (.int .i64 d) ∧ (w.alloc (.cells #[.slice At nt ct, .slice Ak nk ck, .int .i64 a, .int .i64 b, .int .i64 c, .int .i64 d, .int .i64 e, .int .i64 W, .int .i64 H, x, r, y] 30)).cell? ⟨w.heap.size, 6, none⟩ = some (.int .i64 e) ∧ (w.alloc (.cells #[.slice At nt ct, .slice Ak nk ck, .int .i64 a, .int .i64 b, .int .i64 c, .int .i64 d, .int .i64 e, .int .i64 W, .int .i64 H, x, r, y] 30)).cell? ⟨w.heap.size, 7, none⟩ = some (.int .i64 W) ∧ (w.alloc (.cells #[.slice At nt ct, .slice Ak nk ck, .int .i64 a, .int .i64 b, .int .i64 c, .int .i64 d, .int .i64 e, .int .i64 W, .int .i64 H, x, r, y] 30)).cell? ⟨w.heap.size, 8, none⟩ = some (.int .i64 H) ∧ (w.alloc (.cells #[.slice At nt ct, .slice Ak nk ck, .int .i64 a, .int .i64 b, .int .i64 c, .int .i64 d, .int .i64 e, .int .i64 W, .int .i64 H, x, r, y] 30)).cell? ⟨w.heap.size, 9, none⟩ = some (x) ∧ (w.alloc (.cells #[.slice At nt ct, .slice Ak nk ck, .int .i64 a, .int .i64 b, .int .i64 c, .int .i64 d, .int .i64 e, .int .i64 W, .int .i64 H, x, r, y] 30)).cell? ⟨w.heap.size, 10, none⟩ = some (r) ∧ (w.alloc (.cells #[.slice At nt ct, .slice Ak nk ck, .int .i64 a, .int .i64 b, .int .i64 c, .int .i64 d, .int .i64 e, .int .i64 W, .int .i64 H, x, r, y] 30)).cell? ⟨w.heap.size, 11, none⟩ = some (y) := ⟨by simp [go_sem], by simp [go_sem], by simp [go_sem], by simp [go_sem], by simp [go_sem], by simp [go_sem], by simp [go_sem], by simp [go_sem], by simp [go_sem], by simp [go_sem], by simp [go_sem], by simp [go_sem]⟩
  have HR := Lib.hid (h.R.keep KA)
  have bt := h.L.bt
  have br := h.L.br
  have bd := h.L.bd
  have C2 : Hid (∀ (left : Int) (w : World), 0 ≤ left → left ≤ 1048576 → Calls Tryd.prog 23 #[mp W H x r y, .int .i64 left] w (SzPost (mapSm lt lr ld) w)) := Lib.hid fun left w h0 h1 => by
    obtain ⟨A1, c1, rfl⟩ := h.L.rt.shape
    obtain ⟨A2, c2, rfl⟩ := h.L.rr.shape
    obtain ⟨A3, c3, rfl⟩ := h.L.rd.shape
    exact szMap_gen W H A1 A2 A3 _ c1 _ c2 _ c3 left w h0 h1 bt br bd
  clear h
  go_enter Tryd.func7, Tryd.ntmps7
  go_wp2_with fail
  refine (szRules_any _ _ _ _ _ _ l m _ _ _ _ _ _ _ HR.out h0 hL).mono ?_
  rintro e1 w1 ⟨r1, rfl, u1, u2, u3, k1⟩
  have s1 := keepb12 k1 s0
  have U3 := Lib.hid u3
  have K1 := KA.trans k1
  clear s0 k1 u3
  by_cases hneg : r1 < 0
  · go_wp2_with fail
    go_ret
    exact ⟨_, rfl, by omega, by omega, fun h => absurd h (by omega), K1⟩
  · go_wp2_with fail
    refine (C2.out _ _ (by omega) u1).mono ?_
    rintro e2 w2 ⟨r2, rfl, v1, v2, v3, k2⟩
    have V3 := Lib.hid v3
    clear v3
    by_cases hneg2 : r2 < 0
    · go_wp2_with fail
      go_ret
      exact ⟨_, rfl, by omega, by omega, fun h => absurd h (by omega), K1.trans k2⟩
    · go_wp2_with fail
      go_ret
      exact ⟨_, rfl, v1, v2, fun _ => ⟨U3.out (by omega), V3.out (by omega)⟩, K1.trans k2⟩

theorem OwnR.far {w : World} {base g1 g2 nt nk : Nat} {l : List Ter} {m : List Knd} {cs : List (Option Addr × Nat)} {ys zs : List Value} (h : OwnR w base g1 g2 nt nk l m cs ys zs) {b j : Nat} (hb : b < base) (u : Value) : OwnR (w.setCell ⟨b, j, none⟩ u) base g1 g2 nt nk l m cs ys zs :=
  ⟨h.t.far (Nat.lt_of_lt_of_le hb h.b) u, h.k.far (by have := h.b; have := h.g; omega) u, h.lc, h.lt, h.lk, h.b, h.g, by simpa using h.z, h.mid⟩
theorem OwnR.base {w : World} {base b g1 g2 nt nk : Nat} {l : List Ter} {m : List Knd} {cs : List (Option Addr × Nat)} {ys zs : List Value} (h : OwnR w base g1 g2 nt nk l m cs ys zs) (hb : b ≤ base) : OwnR w b g1 g2 nt nk l m cs ys zs :=
  ⟨h.t, h.k, h.lc, h.lt, h.lk, by have := h.b; omega, h.g, h.z, h.mid⟩
theorem Own3.far {w : World} {base : Nat} {t r d : Value} {lt lr ld : List Int} (h : Own3 w base t r d lt lr ld) {b j : Nat} (hb : b < base) (u : Value) : Own3 (w.setCell ⟨b, j, none⟩ u) base t r d lt lr ld :=
  ⟨h.ot.far (h.ot.not hb) u, h.or.far (h.or.not hb) u, h.od.far (h.od.not hb) u, h.tr, h.td, h.rd⟩
theorem Own3.base {w : World} {base b : Nat} {t r d : Value} {lt lr ld : List Int} (h : Own3 w base t r d lt lr ld) (hb : b ≤ base) : Own3 w b t r d lt lr ld :=
  ⟨h.ot.base hb, h.or.base hb, h.od.base hb, h.tr, h.td, h.rd⟩
/-- A copied board: rules, and a map's lists behind them. -/
structure OwnBrd (w : World) (base g1 g2 nt nk : Nat) (l : List Ter) (m : List Knd) (cs : List (Option Addr × Nat)) (ys zs : List Value) (x r y : Value) (lt lr ld : List Int) : Prop where
  R : OwnR w base g1 g2 nt nk l m cs ys zs
  M : Own3 w (g2 + 1) x r y lt lr ld
theorem OwnBrd.keep {w w' : World} {base g1 g2 nt nk : Nat} {l : List Ter} {m : List Knd} {cs : List (Option Addr × Nat)} {ys zs : List Value} {x r y : Value} {lt lr ld : List Int} (h : OwnBrd w base g1 g2 nt nk l m cs ys zs x r y lt lr ld) (k : Kp w w') : OwnBrd w' base g1 g2 nt nk l m cs ys zs x r y lt lr ld :=
  ⟨h.R.keep k, h.M.keep k⟩
theorem OwnBrd.at {w w0 : World} {At Ak : Option Addr} {base g1 g2 nt nk : Nat} {l : List Ter} {m : List Knd} {cs : List (Option Addr × Nat)} {ys zs : List Value} {x r y x0 r0 y0 : Value} {lt lr ld : List Int} (h : OwnBrd w base g1 g2 nt nk l m cs ys zs x r y lt lr ld) (b : BrdAt w0 At Ak nt nk l m x0 r0 y0 lt lr ld) : BrdAt w (some ⟨g1, 0, none⟩) (some ⟨g2, 0, none⟩) nt nk l m x r y lt lr ld :=
  ⟨h.R.rul b.R, h.M.lists b.L⟩

abbrev Live12 (w : World) (b : Nat) (v0 v1 v2 v3 v4 v5 v6 v7 v8 v9 v10 v11 : Value) : Prop :=
  (w.cell? ⟨b, 0, none⟩ = some v0 ∧ w.frozen? ⟨b, 0, none⟩ = false) ∧ (w.cell? ⟨b, 1, none⟩ = some v1 ∧ w.frozen? ⟨b, 1, none⟩ = false) ∧ (w.cell? ⟨b, 2, none⟩ = some v2 ∧ w.frozen? ⟨b, 2, none⟩ = false) ∧ (w.cell? ⟨b, 3, none⟩ = some v3 ∧ w.frozen? ⟨b, 3, none⟩ = false) ∧ (w.cell? ⟨b, 4, none⟩ = some v4 ∧ w.frozen? ⟨b, 4, none⟩ = false) ∧ (w.cell? ⟨b, 5, none⟩ = some v5 ∧ w.frozen? ⟨b, 5, none⟩ = false) ∧ (w.cell? ⟨b, 6, none⟩ = some v6 ∧ w.frozen? ⟨b, 6, none⟩ = false) ∧ (w.cell? ⟨b, 7, none⟩ = some v7 ∧ w.frozen? ⟨b, 7, none⟩ = false) ∧ (w.cell? ⟨b, 8, none⟩ = some v8 ∧ w.frozen? ⟨b, 8, none⟩ = false) ∧ (w.cell? ⟨b, 9, none⟩ = some v9 ∧ w.frozen? ⟨b, 9, none⟩ = false) ∧ (w.cell? ⟨b, 10, none⟩ = some v10 ∧ w.frozen? ⟨b, 10, none⟩ = false) ∧ (w.cell? ⟨b, 11, none⟩ = some v11 ∧ w.frozen? ⟨b, 11, none⟩ = false)
theorem live12_keep {w w' : World} {b : Nat} {v0 v1 v2 v3 v4 v5 v6 v7 v8 v9 v10 v11 : Value} (k : Kp w w') (h : Live12 w b v0 v1 v2 v3 v4 v5 v6 v7 v8 v9 v10 v11) : Live12 w' b v0 v1 v2 v3 v4 v5 v6 v7 v8 v9 v10 v11 :=
  ⟨k.liv h.1, k.liv h.2.1, k.liv h.2.2.1, k.liv h.2.2.2.1, k.liv h.2.2.2.2.1, k.liv h.2.2.2.2.2.1, k.liv h.2.2.2.2.2.2.1, k.liv h.2.2.2.2.2.2.2.1, k.liv h.2.2.2.2.2.2.2.2.1, k.liv h.2.2.2.2.2.2.2.2.2.1, k.liv h.2.2.2.2.2.2.2.2.2.2.1, k.liv h.2.2.2.2.2.2.2.2.2.2.2⟩


set_option maxRecDepth 100000 in
set_option maxHeartbeats 8000000 in
theorem toBoard_any (At Ak : Option Addr) (nt nk ct ck : Nat) (l : List Ter) (m : List Knd) (a b c d e W H : Int) (x r y : Value) (lt lr ld : List Int) (mt mr md : Nat) (w : World) (h : BrdAt w At Ak nt nk l m x r y lt lr ld) (e1 : lt.length = mt) (e2 : lr.length = mr) (e3 : ld.length = md) :
    Calls Tryd.prog 9 #[bv (.slice At nt ct) (.slice Ak nk ck) a b c d e W H x r y] w fun e' w' => ∃ (g1 g2 : Nat) (cs : List (Option Addr × Nat)) (ys zs : List Value) (A1 : Option Addr) (c1 : Nat) (A2 : Option Addr) (c2 : Nat) (A3 : Option Addr) (c3 : Nat), e' = .returned (bv (.slice (some ⟨g1, 0, none⟩) nt nt) (.slice (some ⟨g2, 0, none⟩) nk nk) a b c d e W H (.slice A1 mt c1) (.slice A2 mr c2) (.slice A3 md c3)) ∧ OwnBrd w' w.heap.size g1 g2 nt nk l m cs ys zs (.slice A1 mt c1) (.slice A2 mr c2) (.slice A3 md c3) lt lr ld ∧ Kp w w' := by
  have HB := Lib.hid h
  have k0 : Kp w (((w.alloc (.cells #[.slice At nt ct, .slice Ak nk ck, .int .i64 a, .int .i64 b, .int .i64 c, .int .i64 d, .int .i64 e, .int .i64 W, .int .i64 H, x, r, y] 30)).alloc (.cells #[.slice none 0 0, .slice none 0 0, .int .i64 0, .int .i64 0, .int .i64 0, .int .i64 0, .int .i64 0, .int .i64 0, .int .i64 0, .slice none 0 0, .slice none 0 0, .slice none 0 0] 40)).alloc (.cells #[.slice none 0 0, .slice none 0 0, .int .i64 0, .int .i64 0, .int .i64 0, .int .i64 0, .int .i64 0, .int .i64 0, .int .i64 0, .slice none 0 0, .slice none 0 0, .slice none 0 0] 40)) := (((Kp.refl w).alloc _).alloc _).alloc _
  have CT := Lib.hid (fun w (h : Lists w x r y lt lr ld) => toMap_sl W H x r y lt lr ld mt mr md w h e1 e2 e3)
  clear h e1 e2 e3
  go_enter Tryd.func9, Tryd.ntmps9
  go_wp2_with fail
  refine (toRules_any _ _ _ _ _ _ l m _ _ _ _ _ _ (HB.out.keep k0).R).mono ?_
  rintro e1 w1 ⟨g1, g2, cs, ys, zs, rfl, o1, k1⟩
  have a7 : w1.cell? ⟨w.heap.size, 7, none⟩ = some (.int .i64 W) := k1.cell (by simp [go_sem])
  have a8 : w1.cell? ⟨w.heap.size, 8, none⟩ = some (.int .i64 H) := k1.cell (by simp [go_sem])
  have a9 : w1.cell? ⟨w.heap.size, 9, none⟩ = some (x) := k1.cell (by simp [go_sem])
  have a10 : w1.cell? ⟨w.heap.size, 10, none⟩ = some (r) := k1.cell (by simp [go_sem])
  have a11 : w1.cell? ⟨w.heap.size, 11, none⟩ = some (y) := k1.cell (by simp [go_sem])
  have L1 : Live12 w1 (w.heap.size + 1) (.slice none 0 0) (.slice none 0 0) (.int .i64 0) (.int .i64 0) (.int .i64 0) (.int .i64 0) (.int .i64 0) (.int .i64 0) (.int .i64 0) (.slice none 0 0) (.slice none 0 0) (.slice none 0 0) := live12_keep k1 ⟨by simp [go_sem], by simp [go_sem], by simp [go_sem], by simp [go_sem], by simp [go_sem], by simp [go_sem], by simp [go_sem], by simp [go_sem], by simp [go_sem], by simp [go_sem], by simp [go_sem], by simp [go_sem]⟩
  have M1 : Live12 w1 (w.heap.size + 1 + 1) (.slice none 0 0) (.slice none 0 0) (.int .i64 0) (.int .i64 0) (.int .i64 0) (.int .i64 0) (.int .i64 0) (.int .i64 0) (.int .i64 0) (.slice none 0 0) (.slice none 0 0) (.slice none 0 0) := live12_keep k1 ⟨by simp [go_sem], by simp [go_sem], by simp [go_sem], by simp [go_sem], by simp [go_sem], by simp [go_sem], by simp [go_sem], by simp [go_sem], by simp [go_sem], by simp [go_sem], by simp [go_sem], by simp [go_sem]⟩
  have K1 : Kp w w1 := k0.trans k1
  have eg : (((w.alloc (.cells #[.slice At nt ct, .slice Ak nk ck, .int .i64 a, .int .i64 b, .int .i64 c, .int .i64 d, .int .i64 e, .int .i64 W, .int .i64 H, x, r, y] 30)).alloc (.cells #[.slice none 0 0, .slice none 0 0, .int .i64 0, .int .i64 0, .int .i64 0, .int .i64 0, .int .i64 0, .int .i64 0, .int .i64 0, .slice none 0 0, .slice none 0 0, .slice none 0 0] 40)).alloc (.cells #[.slice none 0 0, .slice none 0 0, .int .i64 0, .int .i64 0, .int .i64 0, .int .i64 0, .int .i64 0, .int .i64 0, .int .i64 0, .slice none 0 0, .slice none 0 0, .slice none 0 0] 40)).heap.size = w.heap.size + 3 := by simp
  rw [eg] at o1
  have z1 : w.heap.size + 3 < w1.heap.size := by have := o1.b; have := o1.g; have := o1.z; omega
  have z1b : g2 < w1.heap.size := o1.z
  have O1 := Lib.hid o1
  clear k0 k1 o1 eg
  go_wp2_with fail
  have K1' : Kp w (((((((w1.setCell ⟨w.heap.size + 1 + 1, 0, none⟩ (.slice (some ⟨g1, 0, none⟩) nt nt)).setCell ⟨w.heap.size + 1 + 1, 1, none⟩ (.slice (some ⟨g2, 0, none⟩) nk nk)).setCell ⟨w.heap.size + 1 + 1, 2, none⟩ (.int .i64 a)).setCell ⟨w.heap.size + 1 + 1, 3, none⟩ (.int .i64 b)).setCell ⟨w.heap.size + 1 + 1, 4, none⟩ (.int .i64 c)).setCell ⟨w.heap.size + 1 + 1, 5, none⟩ (.int .i64 d)).setCell ⟨w.heap.size + 1 + 1, 6, none⟩ (.int .i64 e)) := (((((((K1.setCell (by simp <;> omega) _).setCell (by simp <;> omega) _).setCell (by simp <;> omega) _).setCell (by simp <;> omega) _).setCell (by simp <;> omega) _).setCell (by simp <;> omega) _).setCell (by simp <;> omega) _)
  refine (CT.out _ (HB.out.keep K1').L).mono ?_
  rintro e2 w2 ⟨A1, c1, A2, c2, A3, c3, rfl, o2, k2⟩
  have L2 : Live12 w2 (w.heap.size + 1) (.slice none 0 0) (.slice none 0 0) (.int .i64 0) (.int .i64 0) (.int .i64 0) (.int .i64 0) (.int .i64 0) (.int .i64 0) (.int .i64 0) (.slice none 0 0) (.slice none 0 0) (.slice none 0 0) := live12_keep k2 ⟨by simp [go_sem, *], by simp [go_sem, *], by simp [go_sem, *], by simp [go_sem, *], by simp [go_sem, *], by simp [go_sem, *], by simp [go_sem, *], by simp [go_sem, *], by simp [go_sem, *], by simp [go_sem, *], by simp [go_sem, *], by simp [go_sem, *]⟩
  have M2 : Live12 w2 (w.heap.size + 1 + 1) (.slice (some ⟨g1, 0, none⟩) nt nt) (.slice (some ⟨g2, 0, none⟩) nk nk) (.int .i64 a) (.int .i64 b) (.int .i64 c) (.int .i64 d) (.int .i64 e) (.int .i64 0) (.int .i64 0) (.slice none 0 0) (.slice none 0 0) (.slice none 0 0) := live12_keep k2 ⟨by simp [go_sem, *], by simp [go_sem, *], by simp [go_sem, *], by simp [go_sem, *], by simp [go_sem, *], by simp [go_sem, *], by simp [go_sem, *], by simp [go_sem, *], by simp [go_sem, *], by simp [go_sem, *], by simp [go_sem, *], by simp [go_sem, *]⟩
  have K2 : Kp w w2 := K1'.trans k2
  have O2 := Lib.hid ((((((((O1.out.far (by omega) _).far (by omega) _).far (by omega) _).far (by omega) _).far (by omega) _).far (by omega) _).far (by omega) _).keep k2)
  have eg : (((((((w1.setCell ⟨w.heap.size + 1 + 1, 0, none⟩ (.slice (some ⟨g1, 0, none⟩) nt nt)).setCell ⟨w.heap.size + 1 + 1, 1, none⟩ (.slice (some ⟨g2, 0, none⟩) nk nk)).setCell ⟨w.heap.size + 1 + 1, 2, none⟩ (.int .i64 a)).setCell ⟨w.heap.size + 1 + 1, 3, none⟩ (.int .i64 b)).setCell ⟨w.heap.size + 1 + 1, 4, none⟩ (.int .i64 c)).setCell ⟨w.heap.size + 1 + 1, 5, none⟩ (.int .i64 d)).setCell ⟨w.heap.size + 1 + 1, 6, none⟩ (.int .i64 e)).heap.size = w1.heap.size := by simp
  rw [eg] at o2
  have P2 := Lib.hid o2
  have z2 : w.heap.size + 3 ≤ w2.heap.size := by have := k2.size; rw [eg] at this; omega
  clear K1' k2 o2 a7 a8 a9 a10 a11 L1 M1 K1 O1 eg
  go_wp2_with fail
  refine bodyPost_ret (v := bv (.slice (some ⟨g1, 0, none⟩) nt nt) (.slice (some ⟨g2, 0, none⟩) nk nk) a b c d e W H (.slice A1 mt c1) (.slice A2 mr c2) (.slice A3 md c3)) (by simp [results, Tryd.results9, go_sem, *]) rfl ⟨g1, g2, cs, ys, zs, A1, c1, A2, c2, A3, c3, rfl, ⟨?_, ?_⟩, ?_⟩
  · exact (((((((((((((((((O2.out.far (by omega) _).far (by omega) _).far (by omega) _).far (by omega) _).far (by omega) _).far (by omega) _).far (by omega) _).far (by omega) _).far (by omega) _).far (by omega) _).far (by omega) _).far (by omega) _).far (by omega) _).far (by omega) _).far (by omega) _).far (by omega) _).far (by omega) _).base (by omega)
  · exact (((((((((((((((((P2.out.far (by omega) _).far (by omega) _).far (by omega) _).far (by omega) _).far (by omega) _).far (by omega) _).far (by omega) _).far (by omega) _).far (by omega) _).far (by omega) _).far (by omega) _).far (by omega) _).far (by omega) _).far (by omega) _).far (by omega) _).far (by omega) _).far (by omega) _).base (by omega)
  · exact (((((((((((((((((K2.setCell (by simp <;> omega) _).setCell (by simp <;> omega) _).setCell (by simp <;> omega) _).setCell (by simp <;> omega) _).setCell (by simp <;> omega) _).setCell (by simp <;> omega) _).setCell (by simp <;> omega) _).setCell (by simp <;> omega) _).setCell (by simp <;> omega) _).setCell (by simp <;> omega) _).setCell (by simp <;> omega) _).setCell (by simp <;> omega) _).setCell (by simp <;> omega) _).setCell (by simp <;> omega) _).setCell (by simp <;> omega) _).setCell (by simp <;> omega) _).setCell (by simp <;> omega) _)

set_option maxRecDepth 100000 in
set_option maxHeartbeats 4000000 in
theorem eqBoard_same (At Ak Bt Bk : Option Addr) (nt nk ct ck dt dk : Nat) (l : List Ter) (m : List Knd) (a b c d e W H : Int) (x r y x2 r2 y2 : Value) (lt lr ld : List Int) (w : World) (hA : BrdAt w At Ak nt nk l m x r y lt lr ld) (hB : BrdAt w Bt Bk nt nk l m x2 r2 y2 lt lr ld) :
    Calls Tryd.prog 11 #[bv (.slice At nt ct) (.slice Ak nk ck) a b c d e W H x r y, bv (.slice Bt nt dt) (.slice Bk nk dk) a b c d e W H x2 r2 y2] w fun e' w' => e' = .returned (.bool true) ∧ Kp w w' := by
  have KA : Kp w ((w.alloc (.cells #[.slice At nt ct, .slice Ak nk ck, .int .i64 a, .int .i64 b, .int .i64 c, .int .i64 d, .int .i64 e, .int .i64 W, .int .i64 H, x, r, y] 40)).alloc (.cells #[.slice Bt nt dt, .slice Bk nk dk, .int .i64 a, .int .i64 b, .int .i64 c, .int .i64 d, .int .i64 e, .int .i64 W, .int .i64 H, x2, r2, y2] 40)) := ((Kp.refl w).alloc _).alloc _
  have sA : ((w.alloc (.cells #[.slice At nt ct, .slice Ak nk ck, .int .i64 a, .int .i64 b, .int .i64 c, .int .i64 d, .int .i64 e, .int .i64 W, .int .i64 H, x, r, y] 40)).alloc (.cells #[.slice Bt nt dt, .slice Bk nk dk, .int .i64 a, .int .i64 b, .int .i64 c, .int .i64 d, .int .i64 e, .int .i64 W, .int .i64 H, x2, r2, y2] 40)).cell? ⟨w.heap.size, 0, none⟩ = some (.slice At nt ct) ∧ ((w.alloc (.cells #[.slice At nt ct, .slice Ak nk ck, .int .i64 a, .int .i64 b, .int .i64 c, .int .i64 d, .int .i64 e, .int .i64 W, .int .i64 H, x, r, y] 40)).alloc (.cells #[.slice Bt nt dt, .slice Bk nk dk, .int .i64 a, .int .i64 b, .int .i64 c, .int .i64 d, .int .i64 e, .int .i64 W, .int .i64 H, x2, r2, y2] 40)).cell? ⟨w.heap.size, 1, none⟩ = some (.slice Ak nk ck) ∧ ((w.alloc (.cells #[.slice At nt ct, .slice Ak nk ck, .int .i64 a, .int .i64 b, .int .i64 c, .int .i64 d, .int .i64 e, .int .i64 W, .int .i64 H, x, r, y] 40)).alloc (.cells #[.slice Bt nt dt, .slice Bk nk dk, .int .i64 a, .int .i64 b, .int .i64 c, .int .i64 d, .int .i64 e, .int .i64 W, .int .i64 H, x2, r2, y2] 40)).cell? ⟨w.heap.size, 2, none⟩ = some (.int .i64 a) ∧ ((w.alloc (.cells #[.slice At nt ct, .slice Ak nk ck, .int .i64 a, .int .i64 b, .int .i64 c, .int .i64 d, .int .i64 e, .int .i64 W, .int .i64 H, x, r, y] 40)).alloc (.cells #[.slice Bt nt dt, .slice Bk nk dk, .int .i64 a, .int .i64 b, .int .i64 c, .int .i64 d, .int .i64 e, .int .i64 W, .int .i64 H, x2, r2, y2] 40)).cell? ⟨w.heap.size, 3, none⟩ = some (.int .i64 b) ∧ ((w.alloc (.cells #[.slice At nt ct, .slice Ak nk ck, .int .i64 a, .int .i64 b, .int .i64 c, .int .i64 d, .int .i64 e, .int .i64 W, .int .i64 H, x, r, y] 40)).alloc (.cells #[.slice Bt nt dt, .slice Bk nk dk, .int .i64 a, .int .i64 b, .int .i64 c, .int .i64 d, .int .i64 e, .int .i64 W, .int .i64 H, x2, r2, y2] 40)).cell? ⟨w.heap.size, 4, none⟩ = some (.int .i64 c) ∧ ((w.alloc (.cells #[.slice At nt ct, .slice Ak nk ck, .int .i64 a, .int .i64 b, .int .i64 c, .int .i64 d, .int .i64 e, .int .i64 W, .int .i64 H, x, r, y] 40)).alloc (.cells #[.slice Bt nt dt, .slice Bk nk dk, .int .i64 a, .int .i64 b, .int .i64 c, .int .i64 d, .int .i64 e, .int .i64 W, .int .i64 H, x2, r2, y2] 40)).cell? ⟨w.heap.size, 5, none⟩ = some (.int .i64 d) ∧ ((w.alloc (.cells #[.slice At nt ct, .slice Ak nk ck, .int .i64 a, .int .i64 b, .int .i64 c, .int .i64 d, .int .i64 e, .int .i64 W, .int .i64 H, x, r, y] 40)).alloc (.cells #[.slice Bt nt dt, .slice Bk nk dk, .int .i64 a, .int .i64 b, .int .i64 c, .int .i64 d, .int .i64 e, .int .i64 W, .int .i64 H, x2, r2, y2] 40)).cell? ⟨w.heap.size, 6, none⟩ = some (.int .i64 e) ∧ ((w.alloc (.cells #[.slice At nt ct, .slice Ak nk ck, .int .i64 a, .int .i64 b, .int .i64 c, .int .i64 d, .int .i64 e, .int .i64 W, .int .i64 H, x, r, y] 40)).alloc (.cells #[.slice Bt nt dt, .slice Bk nk dk, .int .i64 a, .int .i64 b, .int .i64 c, .int .i64 d, .int .i64 e, .int .i64 W, .int .i64 H, x2, r2, y2] 40)).cell? ⟨w.heap.size, 7, none⟩ = some (.int .i64 W) ∧ ((w.alloc (.cells #[.slice At nt ct, .slice Ak nk ck, .int .i64 a, .int .i64 b, .int .i64 c, .int .i64 d, .int .i64 e, .int .i64 W, .int .i64 H, x, r, y] 40)).alloc (.cells #[.slice Bt nt dt, .slice Bk nk dk, .int .i64 a, .int .i64 b, .int .i64 c, .int .i64 d, .int .i64 e, .int .i64 W, .int .i64 H, x2, r2, y2] 40)).cell? ⟨w.heap.size, 8, none⟩ = some (.int .i64 H) ∧ ((w.alloc (.cells #[.slice At nt ct, .slice Ak nk ck, .int .i64 a, .int .i64 b, .int .i64 c, .int .i64 d, .int .i64 e, .int .i64 W, .int .i64 H, x, r, y] 40)).alloc (.cells #[.slice Bt nt dt, .slice Bk nk dk, .int .i64 a, .int .i64 b, .int .i64 c, .int .i64 d, .int .i64 e, .int .i64 W, .int .i64 H, x2, r2, y2] 40)).cell? ⟨w.heap.size, 9, none⟩ = some (x) ∧ ((w.alloc (.cells #[.slice At nt ct, .slice Ak nk ck, .int .i64 a, .int .i64 b, .int .i64 c, .int .i64 d, .int .i64 e, .int .i64 W, .int .i64 H, x, r, y] 40)).alloc (.cells #[.slice Bt nt dt, .slice Bk nk dk, .int .i64 a, .int .i64 b, .int .i64 c, .int .i64 d, .int .i64 e, .int .i64 W, .int .i64 H, x2, r2, y2] 40)).cell? ⟨w.heap.size, 10, none⟩ = some (r) ∧ ((w.alloc (.cells #[.slice At nt ct, .slice Ak nk ck, .int .i64 a, .int .i64 b, .int .i64 c, .int .i64 d, .int .i64 e, .int .i64 W, .int .i64 H, x, r, y] 40)).alloc (.cells #[.slice Bt nt dt, .slice Bk nk dk, .int .i64 a, .int .i64 b, .int .i64 c, .int .i64 d, .int .i64 e, .int .i64 W, .int .i64 H, x2, r2, y2] 40)).cell? ⟨w.heap.size, 11, none⟩ = some (y) := ⟨by simp [go_sem], by simp [go_sem], by simp [go_sem], by simp [go_sem], by simp [go_sem], by simp [go_sem], by simp [go_sem], by simp [go_sem], by simp [go_sem], by simp [go_sem], by simp [go_sem], by simp [go_sem]⟩
  have sB : ((w.alloc (.cells #[.slice At nt ct, .slice Ak nk ck, .int .i64 a, .int .i64 b, .int .i64 c, .int .i64 d, .int .i64 e, .int .i64 W, .int .i64 H, x, r, y] 40)).alloc (.cells #[.slice Bt nt dt, .slice Bk nk dk, .int .i64 a, .int .i64 b, .int .i64 c, .int .i64 d, .int .i64 e, .int .i64 W, .int .i64 H, x2, r2, y2] 40)).cell? ⟨w.heap.size + 1, 0, none⟩ = some (.slice Bt nt dt) ∧ ((w.alloc (.cells #[.slice At nt ct, .slice Ak nk ck, .int .i64 a, .int .i64 b, .int .i64 c, .int .i64 d, .int .i64 e, .int .i64 W, .int .i64 H, x, r, y] 40)).alloc (.cells #[.slice Bt nt dt, .slice Bk nk dk, .int .i64 a, .int .i64 b, .int .i64 c, .int .i64 d, .int .i64 e, .int .i64 W, .int .i64 H, x2, r2, y2] 40)).cell? ⟨w.heap.size + 1, 1, none⟩ = some (.slice Bk nk dk) ∧ ((w.alloc (.cells #[.slice At nt ct, .slice Ak nk ck, .int .i64 a, .int .i64 b, .int .i64 c, .int .i64 d, .int .i64 e, .int .i64 W, .int .i64 H, x, r, y] 40)).alloc (.cells #[.slice Bt nt dt, .slice Bk nk dk, .int .i64 a, .int .i64 b, .int .i64 c, .int .i64 d, .int .i64 e, .int .i64 W, .int .i64 H, x2, r2, y2] 40)).cell? ⟨w.heap.size + 1, 2, none⟩ = some (.int .i64 a) ∧ ((w.alloc (.cells #[.slice At nt ct, .slice Ak nk ck, .int .i64 a, .int .i64 b, .int .i64 c, .int .i64 d, .int .i64 e, .int .i64 W, .int .i64 H, x, r, y] 40)).alloc (.cells #[.slice Bt nt dt, .slice Bk nk dk, .int .i64 a, .int .i64 b, .int .i64 c, .int .i64 d, .int .i64 e, .int .i64 W, .int .i64 H, x2, r2, y2] 40)).cell? ⟨w.heap.size + 1, 3, none⟩ = some (.int .i64 b) ∧ ((w.alloc (.cells #[.slice At nt ct, .slice Ak nk ck, .int .i64 a, .int .i64 b, .int .i64 c, .int .i64 d, .int .i64 e, .int .i64 W, .int .i64 H, x, r, y] 40)).alloc (.cells #[.slice Bt nt dt, .slice Bk nk dk, .int .i64 a, .int .i64 b, .int .i64 c, .int .i64 d, .int .i64 e, .int .i64 W, .int .i64 H, x2, r2, y2] 40)).cell? ⟨w.heap.size + 1, 4, none⟩ = some (.int .i64 c) ∧ ((w.alloc (.cells #[.slice At nt ct, .slice Ak nk ck, .int .i64 a, .int .i64 b, .int .i64 c, .int .i64 d, .int .i64 e, .int .i64 W, .int .i64 H, x, r, y] 40)).alloc (.cells #[.slice Bt nt dt, .slice Bk nk dk, .int .i64 a, .int .i64 b, .int .i64 c, .int .i64 d, .int .i64 e, .int .i64 W, .int .i64 H, x2, r2, y2] 40)).cell? ⟨w.heap.size + 1, 5, none⟩ = some (.int .i64 d) ∧ ((w.alloc (.cells #[.slice At nt ct, .slice Ak nk ck, .int .i64 a, .int .i64 b, .int .i64 c, .int .i64 d, .int .i64 e, .int .i64 W, .int .i64 H, x, r, y] 40)).alloc (.cells #[.slice Bt nt dt, .slice Bk nk dk, .int .i64 a, .int .i64 b, .int .i64 c, .int .i64 d, .int .i64 e, .int .i64 W, .int .i64 H, x2, r2, y2] 40)).cell? ⟨w.heap.size + 1, 6, none⟩ = some (.int .i64 e) ∧ ((w.alloc (.cells #[.slice At nt ct, .slice Ak nk ck, .int .i64 a, .int .i64 b, .int .i64 c, .int .i64 d, .int .i64 e, .int .i64 W, .int .i64 H, x, r, y] 40)).alloc (.cells #[.slice Bt nt dt, .slice Bk nk dk, .int .i64 a, .int .i64 b, .int .i64 c, .int .i64 d, .int .i64 e, .int .i64 W, .int .i64 H, x2, r2, y2] 40)).cell? ⟨w.heap.size + 1, 7, none⟩ = some (.int .i64 W) ∧ ((w.alloc (.cells #[.slice At nt ct, .slice Ak nk ck, .int .i64 a, .int .i64 b, .int .i64 c, .int .i64 d, .int .i64 e, .int .i64 W, .int .i64 H, x, r, y] 40)).alloc (.cells #[.slice Bt nt dt, .slice Bk nk dk, .int .i64 a, .int .i64 b, .int .i64 c, .int .i64 d, .int .i64 e, .int .i64 W, .int .i64 H, x2, r2, y2] 40)).cell? ⟨w.heap.size + 1, 8, none⟩ = some (.int .i64 H) ∧ ((w.alloc (.cells #[.slice At nt ct, .slice Ak nk ck, .int .i64 a, .int .i64 b, .int .i64 c, .int .i64 d, .int .i64 e, .int .i64 W, .int .i64 H, x, r, y] 40)).alloc (.cells #[.slice Bt nt dt, .slice Bk nk dk, .int .i64 a, .int .i64 b, .int .i64 c, .int .i64 d, .int .i64 e, .int .i64 W, .int .i64 H, x2, r2, y2] 40)).cell? ⟨w.heap.size + 1, 9, none⟩ = some (x2) ∧ ((w.alloc (.cells #[.slice At nt ct, .slice Ak nk ck, .int .i64 a, .int .i64 b, .int .i64 c, .int .i64 d, .int .i64 e, .int .i64 W, .int .i64 H, x, r, y] 40)).alloc (.cells #[.slice Bt nt dt, .slice Bk nk dk, .int .i64 a, .int .i64 b, .int .i64 c, .int .i64 d, .int .i64 e, .int .i64 W, .int .i64 H, x2, r2, y2] 40)).cell? ⟨w.heap.size + 1, 10, none⟩ = some (r2) ∧ ((w.alloc (.cells #[.slice At nt ct, .slice Ak nk ck, .int .i64 a, .int .i64 b, .int .i64 c, .int .i64 d, .int .i64 e, .int .i64 W, .int .i64 H, x, r, y] 40)).alloc (.cells #[.slice Bt nt dt, .slice Bk nk dk, .int .i64 a, .int .i64 b, .int .i64 c, .int .i64 d, .int .i64 e, .int .i64 W, .int .i64 H, x2, r2, y2] 40)).cell? ⟨w.heap.size + 1, 11, none⟩ = some (y2) := ⟨by simp [go_sem], by simp [go_sem], by simp [go_sem], by simp [go_sem], by simp [go_sem], by simp [go_sem], by simp [go_sem], by simp [go_sem], by simp [go_sem], by simp [go_sem], by simp [go_sem], by simp [go_sem]⟩
  have HA := Lib.hid (hA.keep KA)
  have HB := Lib.hid (hB.keep KA)
  clear hA hB
  go_enter Tryd.func11, Tryd.ntmps11
  go_wp2_with fail
  refine (eqRules_same _ _ _ _ _ _ _ _ _ _ l m _ _ _ _ _ _ HA.out.R.rt HA.out.R.rk HB.out.R.rt HB.out.R.rk HA.out.R.bt HA.out.R.bk (fun x hx => (HA.out.R.bc x hx).1)).mono ?_
  rintro e1 w1 ⟨rfl, k1⟩
  have tA := keepb12 k1 sA
  have tB := keepb12 k1 sB
  have K1 := KA.trans k1
  have HA1 := Lib.hid (HA.out.keep k1)
  have HB1 := Lib.hid (HB.out.keep k1)
  clear sA sB k1 HA HB
  go_wp2_with fail
  refine (eqMap_same _ _ _ _ _ _ _ _ lt lr ld _ HA1.out.L HB1.out.L).mono ?_
  rintro e2 w2 ⟨rfl, k2⟩
  go_wp2_with fail
  go_ret
  exact ⟨rfl, K1.trans k2⟩

theorem cellsBrd : Tryd.prog.cellsOf 30 = 12 := by kernel_rfl
theorem boardFields : ∃ f0 f1 : Field, Tryd.prog.underlying 30 = some (.struct #[f0, f1]) ∧ f0.type = 25 ∧ f1.type = 28 ∧ f0.offset = 0 ∧ f1.offset = 7 :=
  ⟨_, _, Tryd.underlying30, rfl, rfl, rfl, rfl⟩
set_option maxRecDepth 100000 in
/-- Five cells that read as a map. -/
theorem map_cells {H : Type} {enc : TypeId × Value → H} {W : World} {cs : List Value} {n : Nat} (hl : cs.length = 5)
    (hf : ∀ (j : Nat) (f : Field), (match Tryd.prog.underlying 28 with | some (.struct fs) => fs | _ => #[])[j]? = some f → ∃ c y, cs[j]? = some c ∧ DataW.trod enc Tryd.prog W 0 (fun _ => true) true n f.type [c] = some y) :
    ∃ (wd ht : Int) (t r e : Value) (lt lr ld : List Int), cs = [.int .i64 wd, .int .i64 ht, t, r, e] ∧ Reads W t r e lt lr ld := by
  rw [Tryd.underlying28] at hf
  obtain ⟨c0, y0, q0, h0⟩ := hf 0 _ rfl
  obtain ⟨c1, y1, q1, h1⟩ := hf 1 _ rfl
  obtain ⟨c2, y2, q2, h2⟩ := hf 2 _ rfl
  obtain ⟨c3, y3, q3, h3⟩ := hf 3 _ rfl
  obtain ⟨c4, y4, q4, h4⟩ := hf 4 _ rfl
  obtain rfl := five hl q0 q1 q2 q3 q4
  obtain ⟨a, e0, rfl, wa⟩ := DataW.trod_int Tryd.underlying3 h0
  obtain ⟨b, e1, rfl, wb⟩ := DataW.trod_int Tryd.underlying3 h1
  simp only [List.cons.injEq, and_true] at e0 e1
  subst e0 e1
  obtain ⟨lt, r1, r2, r3⟩ := rdB_of_trod h2
  obtain ⟨lr, s1, s2, s3⟩ := rdB_of_trod h3
  obtain ⟨ld, t1, t2, t3⟩ := rdB_of_trod h4
  exact ⟨a, b, c2, c3, c4, lt, lr, ld, rfl, ⟨r1, s1, t1, r2, s2, t2, r3, s3, t3⟩⟩

set_option maxRecDepth 100000 in
/-- Twelve cells that read as a board. -/
theorem board_cells {H : Type} {enc : TypeId × Value → H} {W : World} {cs : List Value} {n : Nat} {y : DataW H × List MemPlace} (hl : cs.length = 12) (hf : DataW.trod enc Tryd.prog W 0 (fun _ => true) true n 30 cs = some y) :
    ∃ (At Ak : Option Addr) (nt nk ct ck : Nat) (l : List Ter) (m : List Knd) (a b c d e W' H' : Int) (x r y : Value) (lt lr ld : List Int), cs = [.slice At nt ct, .slice Ak nk ck, .int .i64 a, .int .i64 b, .int .i64 c, .int .i64 d, .int .i64 e, .int .i64 W', .int .i64 H', x, r, y] ∧ BrdIn W At Ak nt nk l m x r y lt lr ld ∧ ∀ x ∈ l, ∀ z ∈ x.cost, -9223372036854775808 ≤ z ∧ z ≤ 9223372036854775807 := by
  obtain ⟨f0, f1, hu, e0, e1, o0, o1⟩ := boardFields
  obtain ⟨y0, y1, n', hx, hlen, u0, u1⟩ := trod_struct2 hu hf
  rw [e0, o0, cellsRul] at u0
  rw [e1, o1, cellsMap] at u1
  have l0 : ((cs.drop 0).take 7).length = 7 := by simp; omega
  have l1 : ((cs.drop 7).take 5).length = 5 := by simp; omega
  obtain ⟨k0, h0⟩ := fields_of_trod Tryd.underlying25 (by kernel_rfl) rfl l0 u0
  obtain ⟨k1, h1⟩ := fields_of_trod Tryd.underlying28 (by kernel_rfl) rfl l1 u1
  obtain ⟨At, Ak, nt, nk, ct, ck, l, m, a, b, c, d, e, r0, r1, r2⟩ := rules_cells (n := k0) l0 (by rw [Tryd.underlying25]; exact h0)
  obtain ⟨wd, ht, t, r, z, lt, lr, ld, q0, q1⟩ := map_cells (n := k1) l1 (by rw [Tryd.underlying28]; exact h1)
  refine ⟨At, Ak, nt, nk, ct, ck, l, m, a, b, c, d, e, wd, ht, t, r, z, lt, lr, ld, ?_, ⟨r1, q1⟩, r2⟩
  have e5 : (cs.drop 7).take 5 = cs.drop 7 := List.take_of_length_le (by simp; omega)
  rw [e5] at q0
  rw [List.drop_zero] at r0
  rw [← List.take_append_drop 7 cs, r0, q0]
  rfl

set_option maxRecDepth 100000 in
/-- An argument of type Board. -/
theorem open_board {H : Type} {enc : TypeId × Value → H} {W : World} {base : Nat} {v : Value} {d : DataW H} {p : List MemPlace}
    (hv : Value.okWide Tryd.prog W .any base 30 v) (h : DataW.Trod enc Tryd.prog W 0 (fun _ => true) true 30 v d p) :
    ∃ (At Ak : Option Addr) (nt nk ct ck : Nat) (l : List Ter) (m : List Knd) (a b c d e W' H' : Int) (x r y : Value) (lt lr ld : List Int), v = bv (.slice At nt ct) (.slice Ak nk ck) a b c d e W' H' x r y ∧ BrdIn W At Ak nt nk l m x r y lt lr ld ∧ ∀ x ∈ l, ∀ z ∈ x.cost, -9223372036854775808 ≤ z ∧ z ≤ 9223372036854775807 := by
  obtain ⟨⟨cs⟩, rfl, hsz⟩ := okWide_struct Tryd.underlying30 hv
  obtain ⟨fuel, hf⟩ := h
  obtain ⟨At, Ak, nt, nk, ct, ck, l, m, a, b, c, d, e, W', H', x, r, y, lt, lr, ld, e0, h1, h2⟩ := board_cells (cs := cs) (hsz.trans cellsBrd) hf
  exact ⟨At, Ak, nt, nk, ct, ck, l, m, a, b, c, d, e, W', H', x, r, y, lt, lr, ld, by rw [e0], h1, h2⟩

end Go.Proofs.YtfohhofpfmbheaaDoor

/-
  Marking the cells of slices of integers that the call owns with k, k+1, .., and finding the marks again.
-/
namespace Go.Proofs.YtfohhofpfmbheaaDoor
open Go.RowKit

theorem marks1_step (k0 : Int) (xs : List Value) (t n : Nat) (hl : xs.length = n * 1) (ht : t < n) :
    (marks k0 t ++ xs.drop t).set t (.int .i64 (k0 + t)) = marks k0 (t + 1) ++ xs.drop (t + 1) := by
  apply List.ext_getElem?
  intro j
  rw [List.getElem?_set]
  simp only [List.length_append, marks_length, List.length_drop]
  by_cases h1 : t = j
  · subst h1
    rw [if_pos rfl, if_pos (by omega), List.getElem?_append_left (by rw [marks_length]; omega), marks_at _ _ _ (by omega)]
  · rw [if_neg h1]
    by_cases h3 : j < t
    · rw [List.getElem?_append_left (by rw [marks_length]; omega), List.getElem?_append_left (by rw [marks_length]; omega), marks_at _ _ _ h3, marks_at _ _ _ (by omega)]
    · rw [List.getElem?_append_right (by rw [marks_length]; omega), List.getElem?_append_right (by rw [marks_length]; omega), marks_length, marks_length, List.getElem?_drop, List.getElem?_drop]
      congr 1
      omega

theorem markIntS_own (v : Value) (n base : Nat) (k0 : Int) (xs : List Value) (w : World) (h0 : 0 ≤ k0) (h1 : k0 ≤ 1000000000000000) (hn : n ≤ 1048576) (hown : w.ownsRow base 3 1 v n xs) :
    Calls Tryd.prog 18 #[v, .int .i64 k0] w fun e w' => e = .returned (.int .i64 (k0 + n)) ∧ w'.ownsRow base 3 1 v n (marks k0 n) ∧ w.grownBy w' v.ownBlock := by
  rcases hown.2 with ⟨rfl, rfl⟩ | ⟨g, cap, cur, rfl, _⟩
  · go_enter Tryd.func18, Tryd.ntmps18
    go_wp2_with fail
    go_loop [1, 5] (fun k i => k = .int .i64 k0 ∧ i = .int .i64 0) (fun _ _ => 0)
    case atStart => exact ⟨rfl, rfl⟩
    case round =>
      obtain ⟨rfl, rfl⟩ := hrel
      go_wp2_with fail
      go_ret
      exact ⟨ret_int (by simp), World.ownsRow_nil _ _ _ _, World.grownBy.refl w _⟩
  · have hl : xs.length = n * 1 := hown.1
    have HL := Lib.hid hl
    clear hl
    go_enter Tryd.func18, Tryd.ntmps18
    go_wp2_with fail
    go_loopw [1, 5] (fun kk i wr => ∃ t : Nat, t ≤ n ∧ i = .int .i64 t ∧ kk = .int .i64 (k0 + t) ∧ wr.ownsRow base 3 1 (.slice (some ⟨g, 0, none⟩) n cap) n (marks k0 t ++ xs.drop t) ∧ w.grownBy wr (some g)) (fun _ i _ => n - (intOf i).toNat)
    case atStart => exact ⟨0, by omega, rfl, by simp, by simpa [marks] using hown, World.grownBy.refl w _⟩
    case round =>
      obtain ⟨t, ht, rfl, rfl, ho, hg⟩ := hrel
      by_cases hlt : t < n
      · have hlt' : (t : Int) < n := by omega
        have hlen : (marks k0 t ++ xs.drop t).length = n * 1 := ho.1
        obtain ⟨u0, hu0⟩ : ∃ u, wr.cell? ⟨g, t, none⟩ = some u := ⟨_, (ho.cellAt t (by omega)).trans (List.getElem?_eq_getElem (by omega))⟩
        have f0 := ho.frozenAt t
        clear hlen
        go_wp2_with fail
        go_roundw
        case rel =>
          obtain ⟨o1, g1⟩ := ho.stored t (.int .i64 (k0 + t))
          refine ⟨t + 1, by omega, by go_num, by go_num, ?_, hg.trans g1⟩
          rw [← marks1_step k0 xs t n HL.out hlt]
          exact o1
        case measure => simp [intOf]; omega
      · obtain rfl : t = n := by omega
        go_wp2_with fail
        go_ret
        refine ⟨rfl, ?_, hg⟩
        have e : xs.drop t = [] := List.drop_of_length_le (by rw [HL.out]; omega)
        rw [e, List.append_nil] at ho
        exact ho

theorem heldIntS_own (v : Value) (n base : Nat) (k0 : Int) (w : World) (h0 : 0 ≤ k0) (h1 : k0 ≤ 1000000000000000) (hn : n ≤ 1048576) (hown : w.ownsRow base 3 1 v n (marks k0 n)) :
    Calls Tryd.prog 19 #[v, .int .i64 k0] w fun e w' => e = .returned (.int .i64 (k0 + n)) ∧ Kp w w' := by
  rcases hown.2 with ⟨rfl, rfl⟩ | ⟨g, cap, cur, rfl, _⟩
  · go_enter Tryd.func19, Tryd.ntmps19
    go_wp2_with fail
    go_loop [1, 5] (fun k i => k = .int .i64 k0 ∧ i = .int .i64 0) (fun _ _ => 0)
    case atStart => exact ⟨rfl, rfl⟩
    case round =>
      obtain ⟨rfl, rfl⟩ := hrel
      go_wp2_with fail
      go_ret
      exact ⟨ret_int (by simp), Kp.refl _⟩
  · go_enter Tryd.func19, Tryd.ntmps19
    go_wp2_with fail
    go_loopw [1, 5] (fun kk i wr => ∃ t : Nat, t ≤ n ∧ i = .int .i64 t ∧ kk = .int .i64 (k0 + t) ∧ Kp w wr) (fun _ i _ => n - (intOf i).toNat)
    case atStart => exact ⟨0, by omega, rfl, by simp, Kp.refl _⟩
    case round =>
      obtain ⟨t, ht, rfl, rfl, kr⟩ := hrel
      by_cases hlt : t < n
      · have hlt' : (t : Int) < n := by omega
        have c0 : wr.cell? ⟨g, t, none⟩ = some (.int .i64 (k0 + t)) := kr.cell ((hown.cellAt t (by omega)).trans (marks_at _ _ _ (by omega)))
        have hne : ((k0 + (t : Int)) != (k0 + (t : Int))) = false := by simp
        go_wp2_with fail
        go_roundw
        case rel => exact ⟨t + 1, by omega, by go_num, by go_num, kr⟩
        case measure => simp [intOf]; omega
      · obtain rfl : t = n := by omega
        go_wp2_with fail
        go_ret
        exact ⟨rfl, kr⟩

theorem OwnI.block' {w : World} {base : Nat} {v : Value} {l : List Int} (h : OwnI w base v l) (g : Nat) (hg : w.heap.size ≤ g) : v.ownBlock ≠ some g := fun e => by
  have := (World.ownsRow.lt h g e).2
  omega

theorem apart_ne {x y : Value} (h : ∀ g, x.ownBlock = some g → y.ownBlock ≠ some g) : y.ownBlock = none ∨ y.ownBlock ≠ x.ownBlock := by
  cases hy : y.ownBlock
  · exact .inl rfl
  · rename_i g
    exact .inr fun e => h g e.symm hy
theorem apart_sym {x y : Value} (h : ∀ g, x.ownBlock = some g → y.ownBlock ≠ some g) : ∀ g, y.ownBlock = some g → x.ownBlock ≠ some g := fun g hy hx => h g hx hy

end Go.Proofs.YtfohhofpfmbheaaDoor

/-
  Marking the cells of slices of integers that the call owns with k, k+1, .., and finding the marks again; the same for the three lists of a map.
-/
namespace Go.Proofs.YtfohhofpfmbheaaDoor
open Go.RowKit

/-- Only the three slices' own blocks, and new ones, have been written. -/
def Marked (w w' : World) (t r d : Value) : Prop := ∃ w0 wa wb, Kp w w0 ∧ w0.grownBy wa t.ownBlock ∧ wa.grownBy wb r.ownBlock ∧ wb.grownBy w' d.ownBlock
theorem Marked.kp {w w' W0 : World} {t r d : Value} {base : Nat} {lt lr ld : List Int} (h : Marked w w' t r d) (o : Own3 w base t r d lt lr ld) (k : Kp W0 w) (hb : W0.heap.size ≤ base) : Kp W0 w' := by
  obtain ⟨w0, wa, wb, k0, g1, g2, g3⟩ := h
  exact (((k.trans k0).grown g1 (fun k e => Nat.le_trans hb (World.ownsRow.lt o.ot k e).1)).grown g2 (fun k e => Nat.le_trans hb (World.ownsRow.lt o.or k e).1)).grown g3 (fun k e => Nat.le_trans hb (World.ownsRow.lt o.od k e).1)
theorem Marked.own {w w' : World} {t r d v : Value} {base : Nat} {e : TypeId} {sz n : Nat} {xs : List Value} (h : Marked w w' t r d) (o : w.ownsRow base e sz v n xs)
    (h1 : ∀ g, v.ownBlock = some g → t.ownBlock ≠ some g ∧ r.ownBlock ≠ some g ∧ d.ownBlock ≠ some g) : w'.ownsRow base e sz v n xs := by
  obtain ⟨w0, wa, wb, k0, g1, g2, g3⟩ := h
  have ne : ∀ (x : Value), (∀ g, v.ownBlock = some g → x.ownBlock ≠ some g) → v.ownBlock = none ∨ v.ownBlock ≠ x.ownBlock := fun x hx => by
    cases hv : v.ownBlock
    · exact .inl rfl
    · rename_i g
      exact .inr fun e => hx g hv e.symm
  exact (((ownsRow_keep o k0).kept g1 (ne t fun g hg => (h1 g hg).1)).kept g2 (ne r fun g hg => (h1 g hg).2.1)).kept g3 (ne d fun g hg => (h1 g hg).2.2)

/-- The three lists of a map, marked one behind the other. -/
structure Marks3 (w : World) (base : Nat) (t r d : Value) (nt nr nd : Nat) : Prop where
  ot : w.ownsRow base 3 1 t nt (marks 1 nt)
  or : w.ownsRow base 3 1 r nr (marks (1 + nt) nr)
  od : w.ownsRow base 3 1 d nd (marks (1 + nt + nr) nd)
theorem Marks3.keep {w w' : World} {base : Nat} {t r d : Value} {nt nr nd : Nat} (h : Marks3 w base t r d nt nr nd) (k : Kp w w') : Marks3 w' base t r d nt nr nd :=
  ⟨ownsRow_keep h.ot k, ownsRow_keep h.or k, ownsRow_keep h.od k⟩

theorem markMap_any (W H : Int) (t r d : Value) (lt lr ld : List Int) (nt nr nd base : Nat) (w : World) (ho : Own3 w base t r d lt lr ld) (h1 : lt.length = nt) (h2 : lr.length = nr) (h3 : ld.length = nd) (b1 : nt ≤ 1048576) (b2 : nr ≤ 1048576) (b3 : nd ≤ 1048576) :
    Calls Tryd.prog 40 #[mp W H t r d, .int .i64 1] w fun e w' => e = .returned (.int .i64 (1 + nt + nr + nd)) ∧ Marked w w' t r d ∧ Marks3 w' base t r d nt nr nd := by
  have o1 : w.ownsRow base 3 1 t nt (cellsI lt) := by rw [← h1]; exact ho.ot
  have o2 : w.ownsRow base 3 1 r nr (cellsI lr) := by rw [← h2]; exact ho.or
  have o3 : w.ownsRow base 3 1 d nd (cellsI ld) := by rw [← h3]; exact ho.od
  have n1 := Lib.hid (ho.ot.block' w.heap.size (Nat.le_refl _))
  have n2 := Lib.hid (ho.or.block' w.heap.size (Nat.le_refl _))
  have AP := Lib.hid (And.intro ho.tr (And.intro ho.td ho.rd))
  have s0 := new5 w (.int .i64 W) (.int .i64 H) t r d 38
  have k0 := s0.2.2.2.2.2
  have O1 := Lib.hid (ownsRow_keep o1 k0)
  have O2 := Lib.hid (ownsRow_keep o2 k0)
  have O3 := Lib.hid (ownsRow_keep o3 k0)
  clear ho h1 h2 h3 o1 o2 o3
  go_enter Tryd.func40, Tryd.ntmps40
  go_wp2_with fail
  refine (markIntS_own _ _ base _ _ _ (by omega) (by omega) b1 O1.out).mono ?_
  rintro e1 wa ⟨rfl, oa, ga⟩
  have c3 := ga.cell s0.2.2.2.1 (fun e => n1.out e.symm)
  have c4 := ga.cell s0.2.2.2.2.1 (fun e => n1.out e.symm)
  have P2 := Lib.hid (World.ownsRow.kept O2.out ga (apart_ne AP.out.1))
  have P3 := Lib.hid (World.ownsRow.kept O3.out ga (apart_ne AP.out.2.1))
  have P1 := Lib.hid oa
  have GA := Lib.hid ga
  clear oa ga s0 O1 O2 O3
  go_wp2_with fail
  refine (markIntS_own _ _ base _ _ _ (by omega) (by omega) b2 P2.out).mono ?_
  rintro e2 wb ⟨rfl, ob, gb⟩
  have d4 := gb.cell c4 (fun e => n2.out e.symm)
  have Q1 := Lib.hid (World.ownsRow.kept P1.out gb (apart_ne (apart_sym AP.out.1)))
  have Q3 := Lib.hid (World.ownsRow.kept P3.out gb (apart_ne AP.out.2.2))
  have Q2 := Lib.hid ob
  have GB := Lib.hid gb
  clear ob gb c3 c4 P1 P2 P3
  go_wp2_with fail
  refine (markIntS_own _ _ base _ _ _ (by omega) (by omega) b3 Q3.out).mono ?_
  rintro e3 wc ⟨rfl, oc, gc⟩
  have R1 := Lib.hid (World.ownsRow.kept Q1.out gc (apart_ne (apart_sym AP.out.2.1)))
  have R2 := Lib.hid (World.ownsRow.kept Q2.out gc (apart_ne (apart_sym AP.out.2.2)))
  have R3 := Lib.hid oc
  have GC := Lib.hid gc
  clear oc gc d4 Q1 Q2 Q3
  go_wp2_with fail
  go_ret
  exact ⟨rfl, ⟨_, _, _, k0, GA.out, GB.out, GC.out⟩, ⟨R1.out, R2.out, R3.out⟩⟩


end Go.Proofs.YtfohhofpfmbheaaDoor

/-
  Worlds that differ in some blocks alone: below a number, and from another one on, all is as it was.
-/
namespace Go.Proofs.YtfohhofpfmbheaaDoor
open Go.RowKit

/-- Below lo, and from hi on, all that lay there is as it was. -/
def Mk (lo hi : Nat) (w w' : World) : Prop := Below lo w w' ∧ ∀ b, hi ≤ b → b < w.heap.size → w'.heap[b]? = w.heap[b]?
theorem Mk.refl (lo hi : Nat) (w : World) : Mk lo hi w w := ⟨Below.refl _ _, fun _ _ _ => rfl⟩
theorem Mk.trans {lo hi : Nat} {a b c : World} (h : Mk lo hi a b) (k : Mk lo hi b c) : Mk lo hi a c :=
  ⟨Below.trans h.1 k.1, fun n hn hs => (k.2 n hn (Nat.lt_of_lt_of_le hs h.1.size)).trans (h.2 n hn hs)⟩
theorem Mk.of_kp {lo hi : Nat} {w w' : World} (k : Kp w w') (h : lo ≤ w.heap.size) : Mk lo hi w w' := ⟨Below.mono k h, fun b _ hb => k.block b hb⟩
theorem Mk.set {lo hi : Nat} {a w : World} (h : Mk lo hi a w) {b j : Nat} (h1 : lo ≤ b) (h2 : b < hi) (u : Value) : Mk lo hi a (w.setCell ⟨b, j, none⟩ u) :=
  ⟨Below.setCell h.1 h1 u, fun n hn hs => (Below.heap_setCell w ⟨b, j, none⟩ u n (by simp only; omega)).trans (h.2 n hn hs)⟩
theorem Mk.grown {lo hi : Nat} {a w w' : World} {row : Option Nat} (h : Mk lo hi a w) (g : w.grownBy w' row) (hs : lo ≤ w.heap.size) (hr : ∀ k, row = some k → lo ≤ k ∧ k < hi) : Mk lo hi a w' :=
  ⟨Below.grown h.1 g hs (fun k e => (hr k e).1), fun n hn hz => ((let ⟨_, _, _, _, gb⟩ := g; gb) n (Nat.lt_of_lt_of_le hz h.1.size) (fun e => by have := (hr n e.symm).2; omega)).trans (h.2 n hn hz)⟩
theorem Mk.kp {lo hi : Nat} {w w' W0 : World} (h : Mk lo hi w w') (k : Kp W0 w) (hb : W0.heap.size ≤ lo) : Kp W0 w' := Below.trans k (Below.mono h.1 hb)
theorem Mk.own {lo hi base sz n : Nat} {w w' : World} {e : TypeId} {v : Value} {xs : List Value} (h : Mk lo hi w w') (o : w.ownsRow base e sz v n xs) (hb : ∀ g, v.ownBlock = some g → hi ≤ g) : w'.ownsRow base e sz v n xs := by
  obtain ⟨hl, hv⟩ := o
  refine ⟨hl, ?_⟩
  rcases hv with h0 | ⟨g, cap, cur, rfl, h1, h2, h3⟩
  · exact .inl h0
  · have hg : g < w.heap.size := (Array.getElem?_eq_some_iff.1 h2).1
    exact .inr ⟨g, cap, cur, rfl, h1, by rw [h.2 g (hb g rfl) hg]; exact h2, h3⟩

end Go.Proofs.YtfohhofpfmbheaaDoor

/-
  The laws' marking of copied boards: only the copy's own blocks are written, and the number handed back is not less. (What the marks are is not said here.)
-/
namespace Go.Proofs.YtfohhofpfmbheaaDoor
open Go.RowKit

set_option maxRecDepth 100000 in
set_option maxHeartbeats 1000000 in
theorem markText_any (k : Nat) (w : World) (hk : k ≤ 1000000000000000) :
    Calls Tryd.prog 78 #[.int .i64 (k : Int)] w fun e w' => ∃ s, e = .returned (.string s) ∧ Kp w w' := by
  by_cases h0 : k = 0
  · subst h0
    go_enter Tryd.func78, Tryd.ntmps78
    go_wp2_with fail
    go_ret
    exact ⟨_, rfl, Kp.refl _⟩
  · have h1 : ¬ (k : Int) ≤ 0 := by omega
    go_enter Tryd.func78, Tryd.ntmps78
    go_wp2_with fail
    go_loopw [0, 3] (fun kk s wr => ∃ (q : Nat) (x : ByteArray), kk = .int .i64 q ∧ s = .string x ∧ q + x.size ≤ k ∧ Kp w wr) (fun kk _ _ => (intOf kk).toNat)
    case atStart => exact ⟨k, ByteArray.empty, rfl, rfl, by simp, Kp.refl _⟩
    case round =>
      obtain ⟨q, x, rfl, rfl, hq, kr⟩ := hrel
      by_cases hq0 : 0 < q
      · have hq1 : (0 : Int) < q := by omega
        have hd1 : 0 ≤ (q : Int) % 10 := by omega
        have hd2 : (q : Int) % 10 ≤ 9 := by omega
        have hconv := run_convert_bytes_arg (P := Tryd.prog) (wr.alloc (.cells #[.int .u8 (48 + (q : Int) % 10)] 5)) 121 5 Tryd.underlying121 Tryd.underlying5 wr.heap.size 0 1 1 [48 + (q : Int) % 10] rfl (fun i hi => by
          obtain rfl : i = 0 := by omega
          simp [go_sem]) 9 Tryd.underlying9
        have hsz := strOfNums_size [48 + (q : Int) % 10]
        generalize strOfNums [48 + (q : Int) % 10] = z at hconv hsz
        go_wp2_with fail
        go_roundw
        case rel => exact ⟨q / 10, _, by go_num, rfl, by simp at hsz ⊢; omega, kr.alloc _⟩
        case measure => simp [intOf]; omega
      · obtain rfl : q = 0 := by omega
        go_wp2_with fail
        go_ret
        exact ⟨_, rfl, kr⟩


theorem live_grown {w w' : World} {base g n sz : Nat} {e : TypeId} {ys : List Value} {cap : Nat} (h : w.ownsRow base e sz (.slice (some ⟨g, 0, none⟩) n cap) n ys) {row : Option Nat} (gr : w.grownBy w' row) (hne : some g ≠ row) : w'.ownsRow base e sz (.slice (some ⟨g, 0, none⟩) n cap) n ys :=
  World.ownsRow.kept h gr (.inr (fun e => hne (by rw [← e]; rfl)))
/-- What the marking of terrains needs of the terrains from the q-th on. -/
def Rest (w : World) (g q : Nat) (l : List Ter) (cs : List (Option Addr × Nat)) (ys : List Value) : Prop :=
  ∀ (j : Nat) (x : Ter) (c : Option Addr × Nat), q ≤ j → l[j]? = some x → cs[j]? = some c → ys[j * 5 + 1]? = some (.slice c.1 x.cost.length c.2) ∧ OwnI w (g + 1) (.slice c.1 x.cost.length c.2) x.cost
theorem OwnI.kp_set {w w1 : World} {base g j : Nat} {v : Value} {l : List Int} (h : OwnI w base v l) (k : Kp w w1) (hg : g < base) (u : Value) : OwnI (w1.setCell ⟨g, j, none⟩ u) base v l := by
  have h1 := h.keep k
  exact h1.far (h1.not hg) u

set_option maxRecDepth 100000 in
set_option maxHeartbeats 4000000 in
theorem markTerrainS_w (g n : Nat) (l : List Ter) (cs : List (Option Addr × Nat)) (ys : List Value) (k0 : Int) (lo hi : Nat) (w : World) (h : OwnT w g n l cs ys) (hl : l.length = n) (hc : cs.length = n) (hn : n ≤ 1048576) (hb : ∀ x ∈ l, x.cost.length ≤ 1048576) (hlo : lo ≤ g) (hg : g < hi)
    (hhi : ∀ (j : Nat) (c : Option Addr × Nat) (x b : Nat), cs[j]? = some c → (Value.slice c.1 x c.2).ownBlock = some b → b < hi) (p0 : 0 ≤ k0) (p1 : k0 ≤ 100000000000000) :
    Calls Tryd.prog 64 #[.slice (some ⟨g, 0, none⟩) n n, .int .i64 k0] w fun e w' => ∃ k', e = .returned (.int .i64 k') ∧ k0 ≤ k' ∧ k' ≤ k0 + 1048580 * (n : Int) ∧ Mk lo hi w w' := by
  have HN := Lib.hid hl
  have HC := Lib.hid hc
  have HB := Lib.hid hb
  have HHI := Lib.hid hhi
  have HAP := Lib.hid h.apart
  have R0 := Lib.hid h.row
  have S0 : Hid (Rest w g 0 l cs ys) := Lib.hid fun j x c _ hx hcj => ⟨(h.here j x c hx hcj).2.1, h.each j x c hx hcj⟩
  have hgw : g < w.heap.size := (World.ownsRow.lt h.row g rfl).2
  clear h hl hc hb hhi
  go_enter Tryd.func64, Tryd.ntmps64
  go_wp2_with fail
  go_loopw [1, 5] (fun kk i wr => ∃ (q : Nat) (k : Int) (ys : List Value), q ≤ n ∧ i = .int .i64 q ∧ kk = .int .i64 k ∧ k0 ≤ k ∧ k ≤ k0 + 1048580 * (q : Int) ∧ Hid (wr.ownsRow g 79 5 (.slice (some ⟨g, 0, none⟩) n n) n ys) ∧ Hid (Rest wr g q l cs ys) ∧ Mk lo hi w wr ∧ w.heap.size ≤ wr.heap.size) (fun _ i _ => n - (intOf i).toNat)
  case atStart => exact ⟨0, _, ys, by omega, rfl, rfl, by omega, by omega, R0, S0, Mk.refl _ _ _, Nat.le_refl _⟩
  case round =>
    clear R0 S0
    obtain ⟨q, k, zs, hq, rfl, rfl, hk0, hk1, HR, HS, mk, hz⟩ := hrel
    by_cases hlt : q < n
    · have hlt' : (q : Int) < n := by omega
      obtain ⟨x, hx⟩ : ∃ x, l[q]? = some x := ⟨l[q]'(by have := HN.out; omega), List.getElem?_eq_getElem _⟩
      obtain ⟨c, hc⟩ : ∃ c, cs[q]? = some c := ⟨cs[q]'(by have := HC.out; omega), List.getElem?_eq_getElem _⟩
      have hnc := HB.out x (List.mem_of_getElem? hx)
      have HX := Lib.hid hx
      have HCC := Lib.hid hc
      have hrq := HS.out q x c (Nat.le_refl _) hx hc
      obtain ⟨Ac, cc⟩ := c
      simp only at hrq
      have HO := Lib.hid hrq.2
      have HY := Lib.hid hrq.1
      have HZ : Hid (zs.length = n * 5) := Lib.hid HR.out.1
      have HBL : Hid (∀ b, (Value.slice Ac x.cost.length cc).ownBlock = some b → g + 1 ≤ b ∧ b < wr.heap.size ∧ b < hi) := Lib.hid fun b hb => ⟨(World.ownsRow.lt HO.out b hb).1, (World.ownsRow.lt HO.out b hb).2, HHI.out q _ _ b hc hb⟩
      obtain ⟨kn, rfl⟩ : ∃ kn : Nat, k = kn := ⟨k.toNat, by omega⟩
      generalize hcl : x.cost.length = nc at HO HY hnc HBL
      have HCL := Lib.hid hcl
      obtain ⟨⟨u0, b0⟩, f0⟩ := liveN HR.out (j := q * 5) (by omega)
      have hgr : g < wr.heap.size := by omega
      clear hx hc hrq hcl
      go_wp2_with fail
      refine (markText_any kn _ (by omega)).mono ?_
      rintro e1 w1 ⟨s, rfl, k1⟩
      have b0' := k1.cell b0
      have R1 := Lib.hid (ownsRow_keep HR.out k1)
      have f0' := (liveN R1.out (j := q * 5) (by omega)).2
      have R2 := Lib.hid (R1.out.stored (q * 5) (.string s)).1
      have O2 : Hid ((w1.setCell ⟨g, q * 5, none⟩ (.string s)).ownsRow (g + 1) 3 1 (.slice Ac nc cc) nc (cellsI x.cost)) := Lib.hid (by
        have := HO.out.kp_set k1 (g := g) (j := q * 5) (by omega) (.string s)
        unfold OwnI at this
        rw [HCL.out] at this
        exact this)
      have c1 : (w1.setCell ⟨g, q * 5, none⟩ (.string s)).cell? ⟨g, q * 5 + 1, none⟩ = some (.slice Ac nc cc) := by
        refine (R2.out.cellAt (q * 5 + 1) (by omega)).trans ?_
        rw [List.getElem?_set_ne (by omega)]
        exact HY.out
      have m1 : Mk lo hi w (w1.setCell ⟨g, q * 5, none⟩ (.string s)) := (mk.trans (Mk.of_kp k1 (by omega))).set hlo hg _
      have hz1 : wr.heap.size ≤ (w1.setCell ⟨g, q * 5, none⟩ (.string s)).heap.size := by have := k1.size; simpa using this
      clear b0 f0 R1
      go_wp2_with fail
      generalize hW : w1.setCell ⟨g, q * 5, none⟩ (.string s) = W1 at *
      refine (markIntS_own _ _ (g + 1) _ _ _ (by omega) (by omega) hnc O2.out).mono ?_
      rintro e2 w2 ⟨rfl, _, g2⟩
      have R3 := Lib.hid (live_grown R2.out g2 (fun e => by have := HBL.out g e.symm; omega))
      have m2 : Mk lo hi w w2 := m1.grown g2 (by omega) (fun b e => by have := HBL.out b e; omega)
      have hz2 : W1.heap.size ≤ w2.heap.size := g2.size
      have S2 : Hid (∀ (j : Nat) (y : Ter) (d : Option Addr × Nat), q + 1 ≤ j → l[j]? = some y → cs[j]? = some d → OwnI w2 (g + 1) (.slice d.1 y.cost.length d.2) y.cost) := Lib.hid fun j y d hj hy hd => by
        have h1 := (HS.out j y d (by omega) hy hd).2
        have h2 : OwnI W1 (g + 1) (.slice d.1 y.cost.length d.2) y.cost := by
          rw [← hW]
          exact h1.kp_set k1 (by omega) _
        refine World.ownsRow.kept h2 g2 ?_
        cases hb : (Value.slice d.1 y.cost.length d.2).ownBlock
        · exact .inl rfl
        · rename_i b
          refine .inr fun e => ?_
          exact HAP.out q j _ d (by omega) HCC.out hd nc y.cost.length b e.symm hb
      obtain ⟨⟨u2, b2⟩, f2⟩ := liveN R3.out (j := q * 5 + 2) (by omega)
      obtain ⟨⟨u3, b3⟩, f3⟩ := liveN R3.out (j := q * 5 + 3) (by omega)
      obtain ⟨⟨u4, b4⟩, f4⟩ := liveN R3.out (j := q * 5 + 4) (by omega)
      have g2s := g2
      clear g2 hW O2 R2 c1 m1 b0' f0' k1
      go_wp2_with fail
      go_roundw
      case rel =>
        refine ⟨q + 1, _, _, by omega, by go_num, rfl, by omega, by omega, Lib.hid (((R3.out.stored (q * 5 + 2) _).1.stored (q * 5 + 3) _).1.stored (q * 5 + 4) _).1, Lib.hid ?_, ((m2.set hlo hg _).set hlo hg _).set hlo hg _, by simp; omega⟩
        intro j y d hj hy hd
        have h1 := (HS.out j y d (by omega) hy hd).1
        refine ⟨?_, ?_⟩
        · rw [List.getElem?_set_ne (by omega), List.getElem?_set_ne (by omega), List.getElem?_set_ne (by omega), List.getElem?_set_ne (by omega)]
          exact h1
        · have h2 := S2.out j y d hj hy hd
          have n1 := h2.not (g := g) (by omega)
          exact ((h2.far n1 _).far n1 _).far n1 _
      case measure => simp [intOf]; omega
    · obtain rfl : q = n := by omega
      go_wp2_with fail
      go_ret
      exact ⟨_, rfl, hk0, hk1, mk⟩

end Go.Proofs.YtfohhofpfmbheaaDoor

/-
  The laws' marking of copied kinds, rules, maps and boards: only the copy's own blocks are written, and the number handed back is not less.
-/
namespace Go.Proofs.YtfohhofpfmbheaaDoor
open Go.RowKit

set_option maxRecDepth 100000 in
set_option maxHeartbeats 4000000 in
theorem markKindS_w (g n : Nat) (ys : List Value) (k0 : Int) (lo hi : Nat) (w : World) (h : w.ownsRow g 95 6 (.slice (some ⟨g, 0, none⟩) n n) n ys) (hn : n ≤ 1048576) (hlo : lo ≤ g) (hg : g < hi) (p0 : 0 ≤ k0) (p1 : k0 ≤ 200000000000000) :
    Calls Tryd.prog 65 #[.slice (some ⟨g, 0, none⟩) n n, .int .i64 k0] w fun e w' => ∃ k', e = .returned (.int .i64 k') ∧ k0 ≤ k' ∧ k' ≤ k0 + 6 * (n : Int) ∧ Mk lo hi w w' := by
  have R0 := Lib.hid h
  have hgw : g < w.heap.size := (World.ownsRow.lt h g rfl).2
  clear h
  go_enter Tryd.func65, Tryd.ntmps65
  go_wp2_with fail
  go_loopw [1, 5] (fun kk i wr => ∃ (q : Nat) (k : Int) (ys : List Value), q ≤ n ∧ i = .int .i64 q ∧ kk = .int .i64 k ∧ k0 ≤ k ∧ k ≤ k0 + 6 * (q : Int) ∧ Hid (wr.ownsRow g 95 6 (.slice (some ⟨g, 0, none⟩) n n) n ys) ∧ Mk lo hi w wr ∧ w.heap.size ≤ wr.heap.size) (fun _ i _ => n - (intOf i).toNat)
  case atStart => exact ⟨0, _, ys, by omega, rfl, rfl, by omega, by omega, R0, Mk.refl _ _ _, Nat.le_refl _⟩
  case round =>
    clear R0
    obtain ⟨q, k, zs, hq, rfl, rfl, hk0, hk1, HR, mk, hz⟩ := hrel
    by_cases hlt : q < n
    · have hlt' : (q : Int) < n := by omega
      obtain ⟨kn, rfl⟩ : ∃ kn : Nat, k = kn := ⟨k.toNat, by omega⟩
      obtain ⟨⟨u0, b0⟩, f0⟩ := liveN HR.out (j := q * 6) (by omega)
      have hgr : g < wr.heap.size := by omega
      go_wp2_with fail
      refine (markText_any kn _ (by omega)).mono ?_
      rintro e1 w1 ⟨s, rfl, k1⟩
      have R1 := Lib.hid (ownsRow_keep HR.out k1)
      obtain ⟨⟨t0, c0⟩, d0⟩ := liveN R1.out (j := q * 6) (by omega)
      obtain ⟨⟨t1, c1⟩, d1⟩ := liveN R1.out (j := q * 6 + 1) (by omega)
      obtain ⟨⟨t2, c2⟩, d2⟩ := liveN R1.out (j := q * 6 + 2) (by omega)
      obtain ⟨⟨t3, c3⟩, d3⟩ := liveN R1.out (j := q * 6 + 3) (by omega)
      obtain ⟨⟨t4, c4⟩, d4⟩ := liveN R1.out (j := q * 6 + 4) (by omega)
      obtain ⟨⟨t5, c5⟩, d5⟩ := liveN R1.out (j := q * 6 + 5) (by omega)
      have m1 : Mk lo hi w w1 := mk.trans (Mk.of_kp k1 (by omega))
      have hz1 : wr.heap.size ≤ w1.heap.size := k1.size
      clear b0 f0 k1
      go_wp2_with fail
      go_roundw
      case rel =>
        exact ⟨q + 1, _, _, by omega, by go_num, rfl, by omega, by omega, Lib.hid ((((((R1.out.stored (q * 6) _).1.stored (q * 6 + 1) _).1.stored (q * 6 + 2) _).1.stored (q * 6 + 3) _).1.stored (q * 6 + 4) _).1.stored (q * 6 + 5) _).1, (((((m1.set hlo hg _).set hlo hg _).set hlo hg _).set hlo hg _).set hlo hg _).set hlo hg _, by simp; omega⟩
      case measure => simp [intOf]; omega
    · obtain rfl : q = n := by omega
      go_wp2_with fail
      go_ret
      exact ⟨_, rfl, hk0, hk1, mk⟩

theorem Mk.row {lo hi base g n sz : Nat} {w w' : World} {e : TypeId} {cap : Nat} {xs : List Value} (h : Mk lo hi w w') (o : w.ownsRow base e sz (.slice (some ⟨g, 0, none⟩) n cap) n xs) (hb : hi ≤ g) : w'.ownsRow base e sz (.slice (some ⟨g, 0, none⟩) n cap) n xs :=
  h.own o (fun b e => by
    have : g = b := by simpa [Value.ownBlock] using e
    omega)
theorem Mk.cell_hi {lo hi : Nat} {w w' : World} (h : Mk lo hi w w') {b o : Nat} {v : Value} (hb : hi ≤ b) (hc : w.cell? ⟨b, o, none⟩ = some v) : w'.cell? ⟨b, o, none⟩ = some v :=
  (World.cell?_of_block (w := w) (h.2 b hb (cell_lt hc))).trans hc
theorem Mk.wide {lo hi hi' : Nat} {w w' : World} (h : Mk lo hi w w') (hh : hi ≤ hi') : Mk lo hi' w w' := ⟨h.1, fun b hb hs => h.2 b (by omega) hs⟩
theorem OwnR.hi {w : World} {base g1 g2 nt nk : Nat} {l : List Ter} {m : List Knd} {cs : List (Option Addr × Nat)} {ys zs : List Value} (h : OwnR w base g1 g2 nt nk l m cs ys zs) : ∀ (j : Nat) (c : Option Addr × Nat) (x b : Nat), cs[j]? = some c → (Value.slice c.1 x c.2).ownBlock = some b → b < g2 :=
  fun j c x b hc hb => (h.mid j c x b hc hb).2

set_option maxRecDepth 100000 in
set_option maxHeartbeats 4000000 in
theorem markRules_w (base g1 g2 nt nk : Nat) (l : List Ter) (m : List Knd) (cs : List (Option Addr × Nat)) (ys zs : List Value) (a b c d e k0 : Int) (w : World) (h : OwnR w base g1 g2 nt nk l m cs ys zs) (hb1 : nt ≤ 1048576) (hb2 : nk ≤ 1048576) (hb : ∀ x ∈ l, x.cost.length ≤ 1048576) (p0 : 0 ≤ k0) (p1 : k0 ≤ 100000000000000) :
    Calls Tryd.prog 39 #[rv (.slice (some ⟨g1, 0, none⟩) nt nt) (.slice (some ⟨g2, 0, none⟩) nk nk) a b c d e, .int .i64 k0] w fun e' w' => ∃ k', e' = .returned (.int .i64 k') ∧ k0 ≤ k' ∧ k' ≤ k0 + 2000000000000 ∧ Mk base (g2 + 1) w w' := by
  have KA : Kp w (w.alloc (.cells #[.slice (some ⟨g1, 0, none⟩) nt nt, .slice (some ⟨g2, 0, none⟩) nk nk, .int .i64 a, .int .i64 b, .int .i64 c, .int .i64 d, .int .i64 e] 37)) := (Kp.refl w).alloc _
  have q1 : (w.alloc (.cells #[.slice (some ⟨g1, 0, none⟩) nt nt, .slice (some ⟨g2, 0, none⟩) nk nk, .int .i64 a, .int .i64 b, .int .i64 c, .int .i64 d, .int .i64 e] 37)).cell? ⟨w.heap.size, 1, none⟩ = some (.slice (some ⟨g2, 0, none⟩) nk nk) := by simp [go_sem]
  have HO := Lib.hid (h.keep KA)
  have HB := Lib.hid hb
  have x1 := h.b
  have x2 := h.g
  have x3 := h.z
  clear h hb
  go_enter Tryd.func39, Tryd.ntmps39
  go_wp2_with fail
  refine (markTerrainS_w g1 nt l cs ys k0 base g2 _ HO.out.t HO.out.lt HO.out.lc hb1 HB.out x1 x2 HO.out.hi p0 p1).mono ?_
  rintro e1 w1 ⟨k1, rfl, y1, y2, m1⟩
  have q2 := m1.cell_hi (by omega) q1
  have O1 := Lib.hid (m1.row HO.out.k.row (Nat.le_refl _))
  have M1 : Mk base (g2 + 1) w w1 := (Mk.of_kp KA (by omega)).trans (m1.wide (by omega))
  clear q1 m1
  go_wp2_with fail
  refine (markKindS_w g2 nk zs _ base (g2 + 1) _ O1.out hb2 (by omega) (by omega) (by omega) (by omega)).mono ?_
  rintro e2 w2 ⟨k2, rfl, z1, z2, m2⟩
  go_wp2_with fail
  go_ret
  exact ⟨_, rfl, by omega, by omega, M1.trans m2⟩

set_option maxRecDepth 100000 in
set_option maxHeartbeats 4000000 in
theorem markMap_w (W H : Int) (t r d : Value) (lt lr ld : List Int) (nt nr nd base hi : Nat) (k0 : Int) (w : World) (ho : Own3 w base t r d lt lr ld) (h1 : lt.length = nt) (h2 : lr.length = nr) (h3 : ld.length = nd) (b1 : nt ≤ 1048576) (b2 : nr ≤ 1048576) (b3 : nd ≤ 1048576) (hs : base ≤ w.heap.size)
    (hi1 : ∀ g, t.ownBlock = some g → g < hi) (hi2 : ∀ g, r.ownBlock = some g → g < hi) (hi3 : ∀ g, d.ownBlock = some g → g < hi) (p0 : 0 ≤ k0) (p1 : k0 ≤ 500000000000000) :
    Calls Tryd.prog 40 #[mp W H t r d, .int .i64 k0] w fun e w' => e = .returned (.int .i64 (k0 + nt + nr + nd)) ∧ Mk base hi w w' := by
  have o1 : w.ownsRow base 3 1 t nt (cellsI lt) := by rw [← h1]; exact ho.ot
  have o2 : w.ownsRow base 3 1 r nr (cellsI lr) := by rw [← h2]; exact ho.or
  have o3 : w.ownsRow base 3 1 d nd (cellsI ld) := by rw [← h3]; exact ho.od
  have n1 := Lib.hid (ho.ot.block' w.heap.size (Nat.le_refl _))
  have n2 := Lib.hid (ho.or.block' w.heap.size (Nat.le_refl _))
  have AP := Lib.hid (And.intro ho.tr (And.intro ho.td ho.rd))
  have s0 := new5 w (.int .i64 W) (.int .i64 H) t r d 38
  have k0' := s0.2.2.2.2.2
  have O1 := Lib.hid (ownsRow_keep o1 k0')
  have O2 := Lib.hid (ownsRow_keep o2 k0')
  have O3 := Lib.hid (ownsRow_keep o3 k0')
  have I1 : Hid (∀ g, t.ownBlock = some g → base ≤ g ∧ g < hi) := Lib.hid fun g e => ⟨(World.ownsRow.lt o1 g e).1, hi1 g e⟩
  have I2 : Hid (∀ g, r.ownBlock = some g → base ≤ g ∧ g < hi) := Lib.hid fun g e => ⟨(World.ownsRow.lt o2 g e).1, hi2 g e⟩
  have I3 : Hid (∀ g, d.ownBlock = some g → base ≤ g ∧ g < hi) := Lib.hid fun g e => ⟨(World.ownsRow.lt o3 g e).1, hi3 g e⟩
  have m0 : Mk base hi w _ := Mk.of_kp k0' hs
  have hz0 : w.heap.size ≤ _ := k0'.size
  clear ho h1 h2 h3 o1 o2 o3 k0' hi1 hi2 hi3
  go_enter Tryd.func40, Tryd.ntmps40
  go_wp2_with fail
  refine (markIntS_own _ _ base _ _ _ (by omega) (by omega) b1 O1.out).mono ?_
  rintro e1 wa ⟨rfl, oa, ga⟩
  have c3 := ga.cell s0.2.2.2.1 (fun e => n1.out e.symm)
  have c4 := ga.cell s0.2.2.2.2.1 (fun e => n1.out e.symm)
  have P2 := Lib.hid (World.ownsRow.kept O2.out ga (apart_ne AP.out.1))
  have P3 := Lib.hid (World.ownsRow.kept O3.out ga (apart_ne AP.out.2.1))
  have ma := m0.grown ga (by omega) I1.out
  have za := ga.size
  clear oa ga s0 O1 O2 O3 m0
  go_wp2_with fail
  refine (markIntS_own _ _ base _ _ _ (by omega) (by omega) b2 P2.out).mono ?_
  rintro e2 wb ⟨rfl, ob, gb⟩
  have d4 := gb.cell c4 (fun e => n2.out e.symm)
  have Q3 := Lib.hid (World.ownsRow.kept P3.out gb (apart_ne AP.out.2.2))
  have mb := ma.grown gb (by omega) I2.out
  have zb := gb.size
  clear ob gb c3 c4 P2 P3 ma
  go_wp2_with fail
  refine (markIntS_own _ _ base _ _ _ (by omega) (by omega) b3 Q3.out).mono ?_
  rintro e3 wc ⟨rfl, oc, gc⟩
  have mc := mb.grown gc (by omega) I3.out
  clear oc gc d4 Q3 mb
  go_wp2_with fail
  go_ret
  exact ⟨rfl, mc⟩

theorem Own3.marked {w w' : World} {lo hi base : Nat} {t r d : Value} {lt lr ld : List Int} (h : Own3 w base t r d lt lr ld) (m : Mk lo hi w w') (hb : hi ≤ base) : Own3 w' base t r d lt lr ld :=
  ⟨m.own h.ot (fun g e => Nat.le_trans hb (World.ownsRow.lt h.ot g e).1), m.own h.or (fun g e => Nat.le_trans hb (World.ownsRow.lt h.or g e).1), m.own h.od (fun g e => Nat.le_trans hb (World.ownsRow.lt h.od g e).1), h.tr, h.td, h.rd⟩

set_option maxRecDepth 100000 in
set_option maxHeartbeats 4000000 in
theorem markBoard_u (base g1 g2 nt nk : Nat) (l : List Ter) (m : List Knd) (cs : List (Option Addr × Nat)) (ys zs : List Value) (a b c d e W H k0 : Int) (x r y : Value) (lt lr ld : List Int) (w : World) (h : OwnBrd w base g1 g2 nt nk l m cs ys zs x r y lt lr ld) (hb1 : nt ≤ 1048576) (hb2 : nk ≤ 1048576) (hb : ∀ x ∈ l, x.cost.length ≤ 1048576) (hm : mapSm lt lr ld) (hbs : base ≤ w.heap.size) (hi : Nat) (_hh : hi ≤ w.heap.size) (hg : g2 < hi) (i1 : ∀ g, x.ownBlock = some g → g < hi) (i2 : ∀ g, r.ownBlock = some g → g < hi) (i3 : ∀ g, y.ownBlock = some g → g < hi) (p0 : 0 ≤ k0) (p1 : k0 ≤ 100000000000000) :
    Calls Tryd.prog 17 #[bv (.slice (some ⟨g1, 0, none⟩) nt nt) (.slice (some ⟨g2, 0, none⟩) nk nk) a b c d e W H x r y, .int .i64 k0] w fun e' w' => ∃ k', e' = .returned (.int .i64 k') ∧ k0 ≤ k' ∧ k' ≤ k0 + 3000000000000 ∧ Mk base hi w w' := by
  have KA : Kp w (w.alloc (.cells #[.slice (some ⟨g1, 0, none⟩) nt nt, .slice (some ⟨g2, 0, none⟩) nk nk, .int .i64 a, .int .i64 b, .int .i64 c, .int .i64 d, .int .i64 e, .int .i64 W, .int .i64 H, x, r, y] 40)) := (Kp.refl w).alloc _
  have s0 : (w.alloc (.cells #[.slice (some ⟨g1, 0, none⟩) nt nt, .slice (some ⟨g2, 0, none⟩) nk nk, .int .i64 a, .int .i64 b, .int .i64 c, .int .i64 d, .int .i64 e, .int .i64 W, .int .i64 H, x, r, y] 40)).cell? ⟨w.heap.size, 0, none⟩ = some (.slice (some ⟨g1, 0, none⟩) nt nt) ∧ (w.alloc (.cells #[.slice (some ⟨g1, 0, none⟩) nt nt, .slice (some ⟨g2, 0, none⟩) nk nk, .int .i64 a, .int .i64 b, .int .i64 c, .int .i64 d, .int .i64 e, .int .i64 W, .int .i64 H, x, r, y] 40)).cell? ⟨w.heap.size, 1, none⟩ = some (.slice (some ⟨g2, 0, none⟩) nk nk) ∧ (w.alloc (.cells #[.slice (some ⟨g1, 0, none⟩) nt nt, .slice (some ⟨g2, 0, none⟩) nk nk, .int .i64 a, .int .i64 b, .int .i64 c, .int .i64 d, .int .i64 e, .int .i64 W, .int .i64 H, x, r, y] 40)).cell? ⟨w.heap.size, 2, none⟩ = some (.int .i64 a) ∧ (w.alloc (.cells #[.slice (some ⟨g1, 0, none⟩) nt nt, .slice (some ⟨g2, 0, none⟩) nk nk, .int .i64 a, .int .i64 b, .int .i64 c, .int .i64 d, .int .i64 e, .int .i64 W, .int .i64 H, x, r, y] 40)).cell? ⟨w.heap.size, 3, none⟩ = some (.int .i64 b) ∧ (w.alloc (.cells #[.slice (some ⟨g1, 0, none⟩) nt nt, .slice (some ⟨g2, 0, none⟩) nk nk, .int .i64 a, .int .i64 b, .int .i64 c, .int .i64 d, .int .i64 e, .int .i64 W, .int .i64 H, x, r, y] 40)).cell? ⟨w.heap.size, 4, none⟩ = some (.int .i64 c) ∧ (w.alloc (.cells #[.slice (some ⟨g1, 0, none⟩) nt nt, .slice (some ⟨g2, 0, none⟩) nk nk, .int .i64 a, .int .i64 b, .int .i64 c, .int .i64 d, .int .i64 e, .int .i64 W, .int .i64 H, x, r, y] 40)).cell? ⟨w.heap.size, 5, none⟩ = some (.int .i64 d) ∧ (w.alloc (.cells #[.slice (some ⟨g1, 0, none⟩) nt nt, .slice (some ⟨g2, 0, none⟩) nk nk, .int .i64 a, .int .i64 b, .int .i64 c, .int .i64 d, .int .i64 e, .int .i64 W, .int .i64 H, x, r, y] 40)).cell? ⟨w.heap.size, 6, none⟩ = some (.int .i64 e) ∧ (w.alloc (.cells #[.slice (some ⟨g1, 0, none⟩) nt nt, .slice (some ⟨g2, 0, none⟩) nk nk, .int .i64 a, .int .i64 b, .int .i64 c, .int .i64 d, .int .i64 e, .int .i64 W, .int .i64 H, x, r, y] 40)).cell? ⟨w.heap.size, 7, none⟩ = some (.int .i64 W) ∧ (w.alloc (.cells #[.slice (some ⟨g1, 0, none⟩) nt nt, .slice (some ⟨g2, 0, none⟩) nk nk, .int .i64 a, .int .i64 b, .int .i64 c, .int .i64 d, .int .i64 e, .int .i64 W, .int .i64 H, x, r, y] 40)).cell? ⟨w.heap.size, 8, none⟩ = some (.int .i64 H) ∧ (w.alloc (.cells #[.slice (some ⟨g1, 0, none⟩) nt nt, .slice (some ⟨g2, 0, none⟩) nk nk, .int .i64 a, .int .i64 b, .int .i64 c, .int .i64 d, .int .i64 e, .int .i64 W, .int .i64 H, x, r, y] 40)).cell? ⟨w.heap.size, 9, none⟩ = some (x) ∧ (w.alloc (.cells #[.slice (some ⟨g1, 0, none⟩) nt nt, .slice (some ⟨g2, 0, none⟩) nk nk, .int .i64 a, .int .i64 b, .int .i64 c, .int .i64 d, .int .i64 e, .int .i64 W, .int .i64 H, x, r, y] 40)).cell? ⟨w.heap.size, 10, none⟩ = some (r) ∧ (w.alloc (.cells #[.slice (some ⟨g1, 0, none⟩) nt nt, .slice (some ⟨g2, 0, none⟩) nk nk, .int .i64 a, .int .i64 b, .int .i64 c, .int .i64 d, .int .i64 e, .int .i64 W, .int .i64 H, x, r, y] 40)).cell? ⟨w.heap.size, 11, none⟩ = some (y) := ⟨by simp [go_sem], by simp [go_sem], by simp [go_sem], by simp [go_sem], by simp [go_sem], by simp [go_sem], by simp [go_sem], by simp [go_sem], by simp [go_sem], by simp [go_sem], by simp [go_sem], by simp [go_sem]⟩
  have HO := Lib.hid (h.keep KA)
  have HB := Lib.hid hb
  have HM := Lib.hid hm
  have x1 := h.R.b
  have x2 := h.R.g
  have x3 := h.R.z
  have I1 := Lib.hid i1
  have I2 := Lib.hid i2
  have I3 := Lib.hid i3
  have hzA : w.heap.size ≤ _ := KA.size
  clear h hb hm i1 i2 i3
  go_enter Tryd.func17, Tryd.ntmps17
  go_wp2_with fail
  refine (markRules_w base g1 g2 nt nk l m cs ys zs a b c d e k0 _ HO.out.R hb1 hb2 HB.out p0 p1).mono ?_
  rintro e1 w1 ⟨k1, rfl, y1, y2, m1⟩
  have s1 : w1.cell? ⟨w.heap.size, 0, none⟩ = some (.slice (some ⟨g1, 0, none⟩) nt nt) ∧ w1.cell? ⟨w.heap.size, 1, none⟩ = some (.slice (some ⟨g2, 0, none⟩) nk nk) ∧ w1.cell? ⟨w.heap.size, 2, none⟩ = some (.int .i64 a) ∧ w1.cell? ⟨w.heap.size, 3, none⟩ = some (.int .i64 b) ∧ w1.cell? ⟨w.heap.size, 4, none⟩ = some (.int .i64 c) ∧ w1.cell? ⟨w.heap.size, 5, none⟩ = some (.int .i64 d) ∧ w1.cell? ⟨w.heap.size, 6, none⟩ = some (.int .i64 e) ∧ w1.cell? ⟨w.heap.size, 7, none⟩ = some (.int .i64 W) ∧ w1.cell? ⟨w.heap.size, 8, none⟩ = some (.int .i64 H) ∧ w1.cell? ⟨w.heap.size, 9, none⟩ = some (x) ∧ w1.cell? ⟨w.heap.size, 10, none⟩ = some (r) ∧ w1.cell? ⟨w.heap.size, 11, none⟩ = some (y) := ⟨m1.cell_hi (by omega) s0.1, m1.cell_hi (by omega) s0.2.1, m1.cell_hi (by omega) s0.2.2.1, m1.cell_hi (by omega) s0.2.2.2.1, m1.cell_hi (by omega) s0.2.2.2.2.1, m1.cell_hi (by omega) s0.2.2.2.2.2.1, m1.cell_hi (by omega) s0.2.2.2.2.2.2.1, m1.cell_hi (by omega) s0.2.2.2.2.2.2.2.1, m1.cell_hi (by omega) s0.2.2.2.2.2.2.2.2.1, m1.cell_hi (by omega) s0.2.2.2.2.2.2.2.2.2.1, m1.cell_hi (by omega) s0.2.2.2.2.2.2.2.2.2.2.1, m1.cell_hi (by omega) s0.2.2.2.2.2.2.2.2.2.2.2⟩
  have O1 := Lib.hid (HO.out.M.marked m1 (Nat.le_refl _))
  have M1 : Mk base hi w w1 := (Mk.of_kp KA hbs).trans (m1.wide (by omega))
  have hz1 := m1.1.size
  clear s0 m1
  go_wp2_with fail
  refine (markMap_w W H x r y lt lr ld _ _ _ (g2 + 1) hi k1 _ O1.out rfl rfl rfl HM.out.1 HM.out.2.1 HM.out.2.2 (by omega) I1.out I2.out I3.out (by omega) (by omega)).mono ?_
  rintro e2 w2 ⟨rfl, m2⟩
  go_wp2_with fail
  go_ret
  exact ⟨_, rfl, by omega, by have h1 := HM.out.1; have h2 := HM.out.2.1; have h3 := HM.out.2.2; omega, M1.trans ⟨Below.mono m2.1 (by omega), m2.2⟩⟩
theorem markBoard_w (base g1 g2 nt nk : Nat) (l : List Ter) (m : List Knd) (cs : List (Option Addr × Nat)) (ys zs : List Value) (a b c d e W H k0 : Int) (x r y : Value) (lt lr ld : List Int) (w : World) (h : OwnBrd w base g1 g2 nt nk l m cs ys zs x r y lt lr ld) (hb1 : nt ≤ 1048576) (hb2 : nk ≤ 1048576) (hb : ∀ x ∈ l, x.cost.length ≤ 1048576) (hm : mapSm lt lr ld) (hbs : base ≤ w.heap.size) (hi : Nat) (_hh : hi ≤ w.heap.size) (hg : g2 < hi) (i1 : ∀ g, x.ownBlock = some g → g < hi) (i2 : ∀ g, r.ownBlock = some g → g < hi) (i3 : ∀ g, y.ownBlock = some g → g < hi) (p0 : 0 ≤ k0) (p1 : k0 ≤ 100000000000000) :
    Calls Tryd.prog 17 #[bv (.slice (some ⟨g1, 0, none⟩) nt nt) (.slice (some ⟨g2, 0, none⟩) nk nk) a b c d e W H x r y, .int .i64 k0] w fun e' w' => ∃ k', e' = .returned (.int .i64 k') ∧ k0 ≤ k' ∧ Mk base hi w w' :=
  (markBoard_u base g1 g2 nt nk l m cs ys zs a b c d e W H k0 x r y lt lr ld w h hb1 hb2 hb hm hbs hi _hh hg i1 i2 i3 p0 p1).mono fun _ _ ⟨k', h1, h2, _, h4⟩ => ⟨k', h1, h2, h4⟩

end Go.Proofs.YtfohhofpfmbheaaDoor

/-
  What the rows' lists say of the ranges and of the table of directions, cell by cell; a world for the witness in which they lie.
-/
namespace Go.Proofs.YtfohhofpfmbheaaDoor
open Go.ChangeShapes Go.WideShapes Go.ChangeAt Go.RowKit Go.Joins

theorem terrainsG : Tryd.prog.globalNamed "loop.example/g00886/impl.terrainsSpan" = some 0 := by kernel_rfl
theorem terrainsTy : (Tryd.prog.globals[0]?).map (·.type) = some 123 := by kernel_rfl
theorem costG : Tryd.prog.globalNamed "loop.example/g00886/impl.costSpan" = some 8 := by kernel_rfl
theorem costTy : (Tryd.prog.globals[8]?).map (·.type) = some 123 := by kernel_rfl
theorem shiftG : Tryd.prog.globalNamed "loop.example/g00886/impl.shiftSpan" = some 9 := by kernel_rfl
theorem shiftTy : (Tryd.prog.globals[9]?).map (·.type) = some 123 := by kernel_rfl
theorem heightG : Tryd.prog.globalNamed "loop.example/g00886/impl.heightSpan" = some 10 := by kernel_rfl
theorem heightTy : (Tryd.prog.globals[10]?).map (·.type) = some 123 := by kernel_rfl
theorem kindsG : Tryd.prog.globalNamed "loop.example/g00886/impl.kindsSpan" = some 1 := by kernel_rfl
theorem kindsTy : (Tryd.prog.globals[1]?).map (·.type) = some 123 := by kernel_rfl
theorem strengthG : Tryd.prog.globalNamed "loop.example/g00886/impl.strengthSpan" = some 11 := by kernel_rfl
theorem strengthTy : (Tryd.prog.globals[11]?).map (·.type) = some 123 := by kernel_rfl
theorem movesG : Tryd.prog.globalNamed "loop.example/g00886/impl.movesSpan" = some 12 := by kernel_rfl
theorem movesTy : (Tryd.prog.globals[12]?).map (·.type) = some 123 := by kernel_rfl
theorem stepsG : Tryd.prog.globalNamed "loop.example/g00886/impl.stepsSpan" = some 13 := by kernel_rfl
theorem stepsTy : (Tryd.prog.globals[13]?).map (·.type) = some 123 := by kernel_rfl
theorem viewG : Tryd.prog.globalNamed "loop.example/g00886/impl.viewSpan" = some 14 := by kernel_rfl
theorem viewTy : (Tryd.prog.globals[14]?).map (·.type) = some 123 := by kernel_rfl
theorem stackG : Tryd.prog.globalNamed "loop.example/g00886/impl.stackSpan" = some 3 := by kernel_rfl
theorem stackTy : (Tryd.prog.globals[3]?).map (·.type) = some 123 := by kernel_rfl
theorem riverG : Tryd.prog.globalNamed "loop.example/g00886/impl.riverSpan" = some 4 := by kernel_rfl
theorem riverTy : (Tryd.prog.globals[4]?).map (·.type) = some 123 := by kernel_rfl
theorem roadG : Tryd.prog.globalNamed "loop.example/g00886/impl.roadSpan" = some 5 := by kernel_rfl
theorem roadTy : (Tryd.prog.globals[5]?).map (·.type) = some 123 := by kernel_rfl
theorem supplyG : Tryd.prog.globalNamed "loop.example/g00886/impl.supplySpan" = some 6 := by kernel_rfl
theorem supplyTy : (Tryd.prog.globals[6]?).map (·.type) = some 123 := by kernel_rfl
theorem turnsG : Tryd.prog.globalNamed "loop.example/g00886/impl.turnsSpan" = some 7 := by kernel_rfl
theorem turnsTy : (Tryd.prog.globals[7]?).map (·.type) = some 123 := by kernel_rfl

theorem spans14 {W : World} (h : laidMetH Tryd.prog [("loop.example/g00886/impl.terrainsSpan", Rows.laid_loop_example_g00886_impl_terrainsSpan), ("loop.example/g00886/impl.costSpan", Rows.laid_loop_example_g00886_impl_costSpan), ("loop.example/g00886/impl.shiftSpan", Rows.laid_loop_example_g00886_impl_shiftSpan), ("loop.example/g00886/impl.heightSpan", Rows.laid_loop_example_g00886_impl_heightSpan), ("loop.example/g00886/impl.kindsSpan", Rows.laid_loop_example_g00886_impl_kindsSpan), ("loop.example/g00886/impl.strengthSpan", Rows.laid_loop_example_g00886_impl_strengthSpan), ("loop.example/g00886/impl.movesSpan", Rows.laid_loop_example_g00886_impl_movesSpan), ("loop.example/g00886/impl.stepsSpan", Rows.laid_loop_example_g00886_impl_stepsSpan), ("loop.example/g00886/impl.viewSpan", Rows.laid_loop_example_g00886_impl_viewSpan), ("loop.example/g00886/impl.stackSpan", Rows.laid_loop_example_g00886_impl_stackSpan), ("loop.example/g00886/impl.riverSpan", Rows.laid_loop_example_g00886_impl_riverSpan), ("loop.example/g00886/impl.roadSpan", Rows.laid_loop_example_g00886_impl_roadSpan), ("loop.example/g00886/impl.supplySpan", Rows.laid_loop_example_g00886_impl_supplySpan), ("loop.example/g00886/impl.turnsSpan", Rows.laid_loop_example_g00886_impl_turnsSpan)] W) : Spans W := by
  have h' : laidMet Tryd.prog [("loop.example/g00886/impl.terrainsSpan", Rows.laid_loop_example_g00886_impl_terrainsSpan), ("loop.example/g00886/impl.costSpan", Rows.laid_loop_example_g00886_impl_costSpan), ("loop.example/g00886/impl.shiftSpan", Rows.laid_loop_example_g00886_impl_shiftSpan), ("loop.example/g00886/impl.heightSpan", Rows.laid_loop_example_g00886_impl_heightSpan), ("loop.example/g00886/impl.kindsSpan", Rows.laid_loop_example_g00886_impl_kindsSpan), ("loop.example/g00886/impl.strengthSpan", Rows.laid_loop_example_g00886_impl_strengthSpan), ("loop.example/g00886/impl.movesSpan", Rows.laid_loop_example_g00886_impl_movesSpan), ("loop.example/g00886/impl.stepsSpan", Rows.laid_loop_example_g00886_impl_stepsSpan), ("loop.example/g00886/impl.viewSpan", Rows.laid_loop_example_g00886_impl_viewSpan), ("loop.example/g00886/impl.stackSpan", Rows.laid_loop_example_g00886_impl_stackSpan), ("loop.example/g00886/impl.riverSpan", Rows.laid_loop_example_g00886_impl_riverSpan), ("loop.example/g00886/impl.roadSpan", Rows.laid_loop_example_g00886_impl_roadSpan), ("loop.example/g00886/impl.supplySpan", Rows.laid_loop_example_g00886_impl_supplySpan), ("loop.example/g00886/impl.turnsSpan", Rows.laid_loop_example_g00886_impl_turnsSpan)] W := h
  obtain ⟨ps, hl, _⟩ := h'
  exact ⟨span_of terrainsG terrainsTy (laid_one hl (.head _)), span_of costG costTy (laid_one hl (.tail _ (.head _))), span_of shiftG shiftTy (laid_one hl (.tail _ (.tail _ (.head _)))), span_of heightG heightTy (laid_one hl (.tail _ (.tail _ (.tail _ (.head _))))), span_of kindsG kindsTy (laid_one hl (.tail _ (.tail _ (.tail _ (.tail _ (.head _)))))), span_of strengthG strengthTy (laid_one hl (.tail _ (.tail _ (.tail _ (.tail _ (.tail _ (.head _))))))), span_of movesG movesTy (laid_one hl (.tail _ (.tail _ (.tail _ (.tail _ (.tail _ (.tail _ (.head _)))))))), span_of stepsG stepsTy (laid_one hl (.tail _ (.tail _ (.tail _ (.tail _ (.tail _ (.tail _ (.tail _ (.head _))))))))), span_of viewG viewTy (laid_one hl (.tail _ (.tail _ (.tail _ (.tail _ (.tail _ (.tail _ (.tail _ (.tail _ (.head _)))))))))), span_of stackG stackTy (laid_one hl (.tail _ (.tail _ (.tail _ (.tail _ (.tail _ (.tail _ (.tail _ (.tail _ (.tail _ (.head _))))))))))), span_of riverG riverTy (laid_one hl (.tail _ (.tail _ (.tail _ (.tail _ (.tail _ (.tail _ (.tail _ (.tail _ (.tail _ (.tail _ (.head _)))))))))))), span_of roadG roadTy (laid_one hl (.tail _ (.tail _ (.tail _ (.tail _ (.tail _ (.tail _ (.tail _ (.tail _ (.tail _ (.tail _ (.tail _ (.head _))))))))))))), span_of supplyG supplyTy (laid_one hl (.tail _ (.tail _ (.tail _ (.tail _ (.tail _ (.tail _ (.tail _ (.tail _ (.tail _ (.tail _ (.tail _ (.tail _ (.head _)))))))))))))), span_of turnsG turnsTy (laid_one hl (.tail _ (.tail _ (.tail _ (.tail _ (.tail _ (.tail _ (.tail _ (.tail _ (.tail _ (.tail _ (.tail _ (.tail _ (.tail _ (.head _)))))))))))))))⟩

theorem spans15 {W : World} (h : laidMetH Tryd.prog [("loop.example/g00886/impl.directionSteps", Rows.laid_loop_example_g00886_impl_directionSteps), ("loop.example/g00886/impl.terrainsSpan", Rows.laid_loop_example_g00886_impl_terrainsSpan), ("loop.example/g00886/impl.costSpan", Rows.laid_loop_example_g00886_impl_costSpan), ("loop.example/g00886/impl.shiftSpan", Rows.laid_loop_example_g00886_impl_shiftSpan), ("loop.example/g00886/impl.heightSpan", Rows.laid_loop_example_g00886_impl_heightSpan), ("loop.example/g00886/impl.kindsSpan", Rows.laid_loop_example_g00886_impl_kindsSpan), ("loop.example/g00886/impl.strengthSpan", Rows.laid_loop_example_g00886_impl_strengthSpan), ("loop.example/g00886/impl.movesSpan", Rows.laid_loop_example_g00886_impl_movesSpan), ("loop.example/g00886/impl.stepsSpan", Rows.laid_loop_example_g00886_impl_stepsSpan), ("loop.example/g00886/impl.viewSpan", Rows.laid_loop_example_g00886_impl_viewSpan), ("loop.example/g00886/impl.stackSpan", Rows.laid_loop_example_g00886_impl_stackSpan), ("loop.example/g00886/impl.riverSpan", Rows.laid_loop_example_g00886_impl_riverSpan), ("loop.example/g00886/impl.roadSpan", Rows.laid_loop_example_g00886_impl_roadSpan), ("loop.example/g00886/impl.supplySpan", Rows.laid_loop_example_g00886_impl_supplySpan), ("loop.example/g00886/impl.turnsSpan", Rows.laid_loop_example_g00886_impl_turnsSpan)] W) : Spans W := by
  have h' : laidMet Tryd.prog [("loop.example/g00886/impl.directionSteps", Rows.laid_loop_example_g00886_impl_directionSteps), ("loop.example/g00886/impl.terrainsSpan", Rows.laid_loop_example_g00886_impl_terrainsSpan), ("loop.example/g00886/impl.costSpan", Rows.laid_loop_example_g00886_impl_costSpan), ("loop.example/g00886/impl.shiftSpan", Rows.laid_loop_example_g00886_impl_shiftSpan), ("loop.example/g00886/impl.heightSpan", Rows.laid_loop_example_g00886_impl_heightSpan), ("loop.example/g00886/impl.kindsSpan", Rows.laid_loop_example_g00886_impl_kindsSpan), ("loop.example/g00886/impl.strengthSpan", Rows.laid_loop_example_g00886_impl_strengthSpan), ("loop.example/g00886/impl.movesSpan", Rows.laid_loop_example_g00886_impl_movesSpan), ("loop.example/g00886/impl.stepsSpan", Rows.laid_loop_example_g00886_impl_stepsSpan), ("loop.example/g00886/impl.viewSpan", Rows.laid_loop_example_g00886_impl_viewSpan), ("loop.example/g00886/impl.stackSpan", Rows.laid_loop_example_g00886_impl_stackSpan), ("loop.example/g00886/impl.riverSpan", Rows.laid_loop_example_g00886_impl_riverSpan), ("loop.example/g00886/impl.roadSpan", Rows.laid_loop_example_g00886_impl_roadSpan), ("loop.example/g00886/impl.supplySpan", Rows.laid_loop_example_g00886_impl_supplySpan), ("loop.example/g00886/impl.turnsSpan", Rows.laid_loop_example_g00886_impl_turnsSpan)] W := h
  obtain ⟨ps, hl, _⟩ := h'
  exact ⟨span_of terrainsG terrainsTy (laid_one hl (.tail _ (.head _))), span_of costG costTy (laid_one hl (.tail _ (.tail _ (.head _)))), span_of shiftG shiftTy (laid_one hl (.tail _ (.tail _ (.tail _ (.head _))))), span_of heightG heightTy (laid_one hl (.tail _ (.tail _ (.tail _ (.tail _ (.head _)))))), span_of kindsG kindsTy (laid_one hl (.tail _ (.tail _ (.tail _ (.tail _ (.tail _ (.head _))))))), span_of strengthG strengthTy (laid_one hl (.tail _ (.tail _ (.tail _ (.tail _ (.tail _ (.tail _ (.head _)))))))), span_of movesG movesTy (laid_one hl (.tail _ (.tail _ (.tail _ (.tail _ (.tail _ (.tail _ (.tail _ (.head _))))))))), span_of stepsG stepsTy (laid_one hl (.tail _ (.tail _ (.tail _ (.tail _ (.tail _ (.tail _ (.tail _ (.tail _ (.head _)))))))))), span_of viewG viewTy (laid_one hl (.tail _ (.tail _ (.tail _ (.tail _ (.tail _ (.tail _ (.tail _ (.tail _ (.tail _ (.head _))))))))))), span_of stackG stackTy (laid_one hl (.tail _ (.tail _ (.tail _ (.tail _ (.tail _ (.tail _ (.tail _ (.tail _ (.tail _ (.tail _ (.head _)))))))))))), span_of riverG riverTy (laid_one hl (.tail _ (.tail _ (.tail _ (.tail _ (.tail _ (.tail _ (.tail _ (.tail _ (.tail _ (.tail _ (.tail _ (.head _))))))))))))), span_of roadG roadTy (laid_one hl (.tail _ (.tail _ (.tail _ (.tail _ (.tail _ (.tail _ (.tail _ (.tail _ (.tail _ (.tail _ (.tail _ (.tail _ (.head _)))))))))))))), span_of supplyG supplyTy (laid_one hl (.tail _ (.tail _ (.tail _ (.tail _ (.tail _ (.tail _ (.tail _ (.tail _ (.tail _ (.tail _ (.tail _ (.tail _ (.tail _ (.head _))))))))))))))), span_of turnsG turnsTy (laid_one hl (.tail _ (.tail _ (.tail _ (.tail _ (.tail _ (.tail _ (.tail _ (.tail _ (.tail _ (.tail _ (.tail _ (.tail _ (.tail _ (.tail _ (.head _))))))))))))))))⟩

theorem tab15 {W : World} (h : laidMetH Tryd.prog [("loop.example/g00886/impl.directionSteps", Rows.laid_loop_example_g00886_impl_directionSteps), ("loop.example/g00886/impl.terrainsSpan", Rows.laid_loop_example_g00886_impl_terrainsSpan), ("loop.example/g00886/impl.costSpan", Rows.laid_loop_example_g00886_impl_costSpan), ("loop.example/g00886/impl.shiftSpan", Rows.laid_loop_example_g00886_impl_shiftSpan), ("loop.example/g00886/impl.heightSpan", Rows.laid_loop_example_g00886_impl_heightSpan), ("loop.example/g00886/impl.kindsSpan", Rows.laid_loop_example_g00886_impl_kindsSpan), ("loop.example/g00886/impl.strengthSpan", Rows.laid_loop_example_g00886_impl_strengthSpan), ("loop.example/g00886/impl.movesSpan", Rows.laid_loop_example_g00886_impl_movesSpan), ("loop.example/g00886/impl.stepsSpan", Rows.laid_loop_example_g00886_impl_stepsSpan), ("loop.example/g00886/impl.viewSpan", Rows.laid_loop_example_g00886_impl_viewSpan), ("loop.example/g00886/impl.stackSpan", Rows.laid_loop_example_g00886_impl_stackSpan), ("loop.example/g00886/impl.riverSpan", Rows.laid_loop_example_g00886_impl_riverSpan), ("loop.example/g00886/impl.roadSpan", Rows.laid_loop_example_g00886_impl_roadSpan), ("loop.example/g00886/impl.supplySpan", Rows.laid_loop_example_g00886_impl_supplySpan), ("loop.example/g00886/impl.turnsSpan", Rows.laid_loop_example_g00886_impl_turnsSpan)] W) : Tab W := by
  have h' : laidMet Tryd.prog [("loop.example/g00886/impl.directionSteps", Rows.laid_loop_example_g00886_impl_directionSteps), ("loop.example/g00886/impl.terrainsSpan", Rows.laid_loop_example_g00886_impl_terrainsSpan), ("loop.example/g00886/impl.costSpan", Rows.laid_loop_example_g00886_impl_costSpan), ("loop.example/g00886/impl.shiftSpan", Rows.laid_loop_example_g00886_impl_shiftSpan), ("loop.example/g00886/impl.heightSpan", Rows.laid_loop_example_g00886_impl_heightSpan), ("loop.example/g00886/impl.kindsSpan", Rows.laid_loop_example_g00886_impl_kindsSpan), ("loop.example/g00886/impl.strengthSpan", Rows.laid_loop_example_g00886_impl_strengthSpan), ("loop.example/g00886/impl.movesSpan", Rows.laid_loop_example_g00886_impl_movesSpan), ("loop.example/g00886/impl.stepsSpan", Rows.laid_loop_example_g00886_impl_stepsSpan), ("loop.example/g00886/impl.viewSpan", Rows.laid_loop_example_g00886_impl_viewSpan), ("loop.example/g00886/impl.stackSpan", Rows.laid_loop_example_g00886_impl_stackSpan), ("loop.example/g00886/impl.riverSpan", Rows.laid_loop_example_g00886_impl_riverSpan), ("loop.example/g00886/impl.roadSpan", Rows.laid_loop_example_g00886_impl_roadSpan), ("loop.example/g00886/impl.supplySpan", Rows.laid_loop_example_g00886_impl_supplySpan), ("loop.example/g00886/impl.turnsSpan", Rows.laid_loop_example_g00886_impl_turnsSpan)] W := h
  obtain ⟨ps, ⟨g, t, cs, fuel, p, q, h1, h2, h3, h4, _, _⟩, _⟩ := h'
  exact tab_of_laid1 ⟨g, t, cs, fuel, p, h1, h2, h3, h4⟩

noncomputable def laidWorldS (os : Os) : World :=
  setVar (setVar (setVar (setVar (setVar (setVar (setVar (setVar (setVar (setVar (setVar (setVar (setVar (setVar (laidWorld os) 0 #[.int .i64 1, .int .i64 6]) 8 #[.int .i64 0, .int .i64 9]) 9 #[.int .i64 (-3), .int .i64 3]) 10 #[.int .i64 0, .int .i64 3]) 1 #[.int .i64 1, .int .i64 4]) 11 #[.int .i64 1, .int .i64 9]) 12 #[.int .i64 0, .int .i64 9]) 13 #[.int .i64 1, .int .i64 4]) 14 #[.int .i64 0, .int .i64 4]) 3 #[.int .i64 1, .int .i64 4]) 4 #[.int .i64 0, .int .i64 9]) 5 #[.int .i64 1, .int .i64 9]) 6 #[.int .i64 0, .int .i64 20]) 7 #[.int .i64 1, .int .i64 30]

theorem len14 {α : Type} {l : List α} (h : l.length = 14) : ∃ x0 x1 x2 x3 x4 x5 x6 x7 x8 x9 x10 x11 x12 x13, l = [x0, x1, x2, x3, x4, x5, x6, x7, x8, x9, x10, x11, x12, x13] := by
  match l, h with
  | [x0, x1, x2, x3, x4, x5, x6, x7, x8, x9, x10, x11, x12, x13], _ => exact ⟨_, _, _, _, _, _, _, _, _, _, _, _, _, _, rfl⟩
theorem len15 {α : Type} {l : List α} (h : l.length = 15) : ∃ x0 x1 x2 x3 x4 x5 x6 x7 x8 x9 x10 x11 x12 x13 x14, l = [x0, x1, x2, x3, x4, x5, x6, x7, x8, x9, x10, x11, x12, x13, x14] := by
  match l, h with
  | [x0, x1, x2, x3, x4, x5, x6, x7, x8, x9, x10, x11, x12, x13, x14], _ => exact ⟨_, _, _, _, _, _, _, _, _, _, _, _, _, _, _, rfl⟩

end Go.Proofs.YtfohhofpfmbheaaDoor

/-
  Small facts on rows of cells that a call owns, and on lists to which one element is added.
-/
namespace Go.Proofs.YtfohhofpfmbheaaDoor
open Go.RowKit

theorem ownsRow_base {w : World} {base b : Nat} {e : TypeId} {size : Nat} {v : Value} {n : Nat} {xs : List Value} (h : w.ownsRow base e size v n xs) (hb : b ≤ base) : w.ownsRow b e size v n xs := by
  refine ⟨h.1, ?_⟩
  rcases h.2 with h | ⟨g, cap, cur, h1, h2, h3⟩
  · exact .inl h
  · exact .inr ⟨g, cap, cur, h1, by omega, h3⟩
theorem snoc_cases {α : Type} {l : List α} {a x : α} {i : Nat} (h : (l ++ [a])[i]? = some x) : (i < l.length ∧ l[i]? = some x) ∨ (i = l.length ∧ x = a) := by
  rcases Nat.lt_or_ge i l.length with hi | hi
  · rw [List.getElem?_append_left hi] at h
    exact .inl ⟨hi, h⟩
  · rw [List.getElem?_append_right hi] at h
    match e : i - l.length, h with
    | 0, h =>
      simp at h
      exact .inr ⟨by omega, h.symm⟩
    | n + 1, h => simp at h

end Go.Proofs.YtfohhofpfmbheaaDoor

/-
  IndexOf and HexAt, the program's and the reference's: what plain functions say, and nothing that was there is changed. The table of directions holds what the program's text lays.
-/
namespace Go.Proofs.YtfohhofpfmbheaaDoor
open Go.RowKit

theorem live2_keep {w w' : World} {b : Nat} {u0 u1 : Value} (k : Kp w w') (h : (w.cell? ⟨b, 0, none⟩ = some u0 ∧ w.frozen? ⟨b, 0, none⟩ = false) ∧ (w.cell? ⟨b, 1, none⟩ = some u1 ∧ w.frozen? ⟨b, 1, none⟩ = false)) :
    (w'.cell? ⟨b, 0, none⟩ = some u0 ∧ w'.frozen? ⟨b, 0, none⟩ = false) ∧ (w'.cell? ⟨b, 1, none⟩ = some u1 ∧ w'.frozen? ⟨b, 1, none⟩ = false) := ⟨k.liv h.1, k.liv h.2⟩

end Go.Proofs.YtfohhofpfmbheaaDoor

/-
  The functions on distances return what a plain function on integers says, for valid hexes, and change nothing that was there.
-/
namespace Go.Proofs.YtfohhofpfmbheaaDoor
open Go.RowKit

def absI (n : Int) : Int := if n < 0 then -n else n
def distI (q r : Int) : Int := (absI q + absI r + absI (q + r)) / 2
def distH (aq ar bq br : Int) : Int := distI (bq - aq) (br - ar)
theorem absI_neg {n : Int} (h : n < 0) : absI n = -n := by simp [absI, h]
theorem absI_pos {n : Int} (h : ¬ n < 0) : absI n = n := by simp [absI, h]
theorem absI_bd (n : Int) : 0 ≤ absI n ∧ n ≤ absI n ∧ -n ≤ absI n ∧ (absI n ≤ n ∨ absI n ≤ -n) := by unfold absI; split <;> omega

def ok2 (aq ar bq br : Int) : Bool := okH aq ar && okH bq br
def distOf (aq ar bq br : Int) : Int := if ok2 aq ar bq br = true then distH aq ar bq br else 0
theorem distOf_yes {aq ar bq br : Int} (h : okH aq ar = true) (h' : okH bq br = true) : distOf aq ar bq br = distH aq ar bq br ∧ ok2 aq ar bq br = true := by
  have e : ok2 aq ar bq br = true := by simp [ok2, h, h']
  exact ⟨by simp [distOf, e], e⟩
theorem distOf_no1 {aq ar bq br : Int} (h : okH aq ar = false) : distOf aq ar bq br = 0 ∧ ok2 aq ar bq br = false := by
  have e : ok2 aq ar bq br = false := by simp [ok2, h]
  exact ⟨by simp [distOf, e], e⟩
theorem distOf_no2 {aq ar bq br : Int} (h : okH bq br = false) : distOf aq ar bq br = 0 ∧ ok2 aq ar bq br = false := by
  have e : ok2 aq ar bq br = false := by simp [ok2, h]
  exact ⟨by simp [distOf, e], e⟩
theorem ret_ib {a b : Int} {c d : Bool} (h : b = a ∧ d = c) : Ending.returned (.tuple #[.int .i64 a, .bool c]) = .returned (.tuple #[.int .i64 b, .bool d]) := by rw [h.1, h.2]

end Go.Proofs.YtfohhofpfmbheaaDoor

/-
  The hexes near a place of a map, the program's and the reference's: the same list, in memory of its own, or none. Nothing that was there is changed. The table of directions holds what the program's text lays.
-/
namespace Go.Proofs.YtfohhofpfmbheaaDoor
open Go.RowKit

def nrB (W X Y rad : Int) (k : Nat) : Bool := decide (distI ((k : Int) % W - X) ((k : Int) / W - Y) ≤ rad)
def nearF (W X Y rad : Int) : Nat → List Int
  | 0 => []
  | k + 1 => nearF W X Y rad k ++ if nrB W X Y rad k = true then [(k : Int)] else []
theorem nearF_len (W X Y rad : Int) : ∀ k, (nearF W X Y rad k).length ≤ k
  | 0 => Nat.le_refl _
  | k + 1 => by
    have := nearF_len W X Y rad k
    rw [nearF, List.length_append]
    split <;> simp <;> omega

theorem grow5 {W0 w w1 : World} {b : Nat} {v0 v1 v2 v3 v4 : Value} {row : Option Nat} (g : w.grownBy w1 row) (hne : some b ≠ row) (hr : ∀ k, row = some k → W0.heap.size ≤ k)
    (h : w.cell? ⟨b, 0, none⟩ = some v0 ∧ w.cell? ⟨b, 1, none⟩ = some v1 ∧ w.cell? ⟨b, 2, none⟩ = some v2 ∧ w.cell? ⟨b, 3, none⟩ = some v3 ∧ w.cell? ⟨b, 4, none⟩ = some v4 ∧ Kp W0 w) :
    w1.cell? ⟨b, 0, none⟩ = some v0 ∧ w1.cell? ⟨b, 1, none⟩ = some v1 ∧ w1.cell? ⟨b, 2, none⟩ = some v2 ∧ w1.cell? ⟨b, 3, none⟩ = some v3 ∧ w1.cell? ⟨b, 4, none⟩ = some v4 ∧ Kp W0 w1 :=
  ⟨g.cell h.1 hne, g.cell h.2.1 hne, g.cell h.2.2.1 hne, g.cell h.2.2.2.1 hne, g.cell h.2.2.2.2.1 hne, h.2.2.2.2.2.grown g hr⟩
theorem keep7h {W0 w w1 : World} {b b' : Nat} {v0 v1 v2 v3 v4 u0 u1 : Value} (k : Kp w w1)
    (h : (w.cell? ⟨b, 0, none⟩ = some v0 ∧ w.cell? ⟨b, 1, none⟩ = some v1 ∧ w.cell? ⟨b, 2, none⟩ = some v2 ∧ w.cell? ⟨b, 3, none⟩ = some v3 ∧ w.cell? ⟨b, 4, none⟩ = some v4 ∧ Kp W0 w) ∧ w.cell? ⟨b', 0, none⟩ = some u0 ∧ w.cell? ⟨b', 1, none⟩ = some u1) :
    (w1.cell? ⟨b, 0, none⟩ = some v0 ∧ w1.cell? ⟨b, 1, none⟩ = some v1 ∧ w1.cell? ⟨b, 2, none⟩ = some v2 ∧ w1.cell? ⟨b, 3, none⟩ = some v3 ∧ w1.cell? ⟨b, 4, none⟩ = some v4 ∧ Kp W0 w1) ∧ w1.cell? ⟨b', 0, none⟩ = some u0 ∧ w1.cell? ⟨b', 1, none⟩ = some u1 := ⟨keep5 k h.1, k.two h.2⟩
theorem drew7h {W0 w : World} {b b' : Nat} {v0 v1 v2 v3 v4 u0 u1 : Value}
    (h : (w.cell? ⟨b, 0, none⟩ = some v0 ∧ w.cell? ⟨b, 1, none⟩ = some v1 ∧ w.cell? ⟨b, 2, none⟩ = some v2 ∧ w.cell? ⟨b, 3, none⟩ = some v3 ∧ w.cell? ⟨b, 4, none⟩ = some v4 ∧ Kp W0 w) ∧ w.cell? ⟨b', 0, none⟩ = some u0 ∧ w.cell? ⟨b', 1, none⟩ = some u1) :
    (w.drew.cell? ⟨b, 0, none⟩ = some v0 ∧ w.drew.cell? ⟨b, 1, none⟩ = some v1 ∧ w.drew.cell? ⟨b, 2, none⟩ = some v2 ∧ w.drew.cell? ⟨b, 3, none⟩ = some v3 ∧ w.drew.cell? ⟨b, 4, none⟩ = some v4 ∧ Kp W0 w.drew) ∧ w.drew.cell? ⟨b', 0, none⟩ = some u0 ∧ w.drew.cell? ⟨b', 1, none⟩ = some u1 := ⟨drew5 h.1, h.2⟩

end Go.Proofs.YtfohhofpfmbheaaDoor

/-
  The hexes near a place of a map: the reference's list, and both functions at whatever arguments. Nothing that was there is changed. The table of directions holds what the program's text lays.
-/
namespace Go.Proofs.YtfohhofpfmbheaaDoor
open Go.RowKit

def NewPostI (l : List Int) (w : World) (e : Ending) (w' : World) : Prop := ∃ v, e = .returned v ∧ OwnI w' w.heap.size v l ∧ Kp w w'

def nearOk (W H : Int) (lt lr ld : List Int) (i rad : Int) : Bool := (mapOk W H lt lr ld && onI W H i) && (decide (0 ≤ rad) && decide (rad ≤ 20))

end Go.Proofs.YtfohhofpfmbheaaDoor

/-
  Small facts on slices of hexes that a call owns in blocks from a number on.
-/
namespace Go.Proofs.YtfohhofpfmbheaaDoor
open Go.RowKit

theorem OwnH.base {w : World} {base b : Nat} {v : Value} {l : List (Int × Int)} (h : OwnH w base v l) (hb : b ≤ base) : OwnH w b v l := by
  refine ⟨h.1, ?_⟩
  rcases h.2 with h | ⟨g, cap, cur, h1, h2, h3⟩
  · exact .inl h
  · exact .inr ⟨g, cap, cur, h1, by omega, h3⟩
theorem OwnH.not {w : World} {base : Nat} {v : Value} {l : List (Int × Int)} (h : OwnH w base v l) {g : Nat} (hg : g < base) : some g ≠ v.ownBlock := fun e => by
  have := (World.ownsRow.lt h g e.symm).1
  omega
theorem OwnH.cell {w : World} {base : Nat} {v : Value} {l l' : List (Int × Int)} (h : OwnH w base v l) (e : l = l') : OwnH w base v l' := e ▸ h

theorem two_new_at {w : World} {b : Nat} (hb : b = w.heap.size) (x y : Value) (t : TypeId) : ∀ j u, [x, y][j]? = some u → (w.alloc (.cells #[x, y] t)).cell? ((⟨b, 0, none⟩ : Addr).add j) = some u := by
  subst hb
  exact two_new w x y t

end Go.Proofs.YtfohhofpfmbheaaDoor

/-
  The integers nearest to a fraction, one or two: the program's and the reference's lists read as a plain function says, and nothing that was there is changed.
-/
namespace Go.Proofs.YtfohhofpfmbheaaDoor
open Go.RowKit

def nrFS (f s p : Int) : List Int := if 2 * s < p then [f] else if p < 2 * s then [f + 1] else [f, f + 1]
def nrI (n p : Int) : List Int := nrFS (n / p) (n % p) p
theorem nrFS_1 {f s p : Int} (h : 2 * s < p) : nrFS f s p = [f] := by simp [nrFS, h]
theorem nrFS_2 {f s p : Int} (h : p < 2 * s) : nrFS f s p = [f + 1] := by rw [nrFS, if_neg (by omega), if_pos h]
theorem nrFS_3 {f s p : Int} (h : 2 * s = p) : nrFS f s p = [f, f + 1] := by rw [nrFS, if_neg (by omega), if_neg (by omega)]
theorem nr_neg {n p : Int} (hp : 1 ≤ p) (h : n.tmod p < 0) : n / p = n.tdiv p - 1 ∧ n % p = n.tmod p + p := by
  have h1 := Int.mul_tdiv_add_tmod n p
  have h2 : -p < n.tmod p := Int.lt_tmod_of_pos n (by omega)
  rw [Int.ediv_emod_unique (by omega)]
  refine ⟨?_, by omega, by omega⟩
  rw [Int.mul_sub]
  omega
theorem nr_zero {n p : Int} (hp : 1 ≤ p) (h : n.tmod p = 0) : n / p = n.tdiv p ∧ n % p = 0 := by
  have h1 := Int.mul_tdiv_add_tmod n p
  rw [Int.ediv_emod_unique (by omega)]
  exact ⟨by omega, by omega, by omega⟩
theorem nr_le {n p : Int} (hn : n < 0) : n.tmod p ≤ 0 := by
  have h := Int.tmod_nonneg (a := -n) p (by omega)
  rw [Int.neg_tmod] at h
  omega
theorem nr_rest (n p : Int) : n - n / p * p = n % p := by
  have := Int.ediv_mul_add_emod n p
  omega
theorem nr_bd {n p : Int} (hp : 1 ≤ p) (h1 : -20000 ≤ n) (h2 : n ≤ 20000) : -20000 ≤ n / p ∧ n / p ≤ 20000 ∧ 0 ≤ n % p ∧ n % p < p := by
  refine ⟨Int.le_ediv_of_mul_le (by omega) ?_, ?_, Int.emod_nonneg _ (by omega), Int.emod_lt_of_pos _ (by omega)⟩
  · have : 0 ≤ (p - 1) * 20000 := Int.mul_nonneg (by omega) (by omega)
    omega
  · by_cases h : 0 ≤ n
    · exact Int.le_trans (Int.ediv_le_self _ h) h2
    · have := Int.ediv_neg_of_neg_of_pos (a := n) (b := p) (by omega) (by omega)
      omega

theorem rd_one (w : World) (x : Int) (T : TypeId) : RdI (w.alloc (.cells #[.int .i64 x] T)) (.slice (some ⟨w.heap.size, 0, none⟩) 1 1) [x] := by
  refine ⟨_, _, rfl, fun _ => ⟨w.heap.size, 0, rfl, fun i y hy => ?_⟩⟩
  match i, hy with
  | 0, hy =>
    simp at hy
    subst hy
    simp [go_sem]
theorem rd_two (w : World) (x y : Int) (T : TypeId) : RdI (w.alloc (.cells #[.int .i64 x, .int .i64 y] T)) (.slice (some ⟨w.heap.size, 0, none⟩) 2 2) [x, y] := by
  refine ⟨_, _, rfl, fun _ => ⟨w.heap.size, 0, rfl, fun i z hz => ?_⟩⟩
  match i, hz with
  | 0, hz =>
    simp at hz
    subst hz
    simp [go_sem]
  | 1, hz =>
    simp at hz
    subst hz
    simp [go_sem]

def NearPost (l : List Int) (w : World) (e : Ending) (w' : World) : Prop := ∃ v, e = .returned v ∧ RdI w' v l ∧ Kp w w'

end Go.Proofs.YtfohhofpfmbheaaDoor

/-
  The hexes nearest to a point of a line, one or two: the program's and the reference's lists are what a plain function says, in memory of their own. Nothing that was there is changed.
-/
namespace Go.Proofs.YtfohhofpfmbheaaDoor
open Go.RowKit

def cellsL (q r p : Int) : List (Int × Int) :=
  if q.tmod p = 0 then (nrI r p).map fun y => (q.tdiv p, y)
  else if r.tmod p = 0 then (nrI q p).map fun x => (x, r.tdiv p)
  else (nrI q p).map fun x => (x, (q + r).tdiv p - x)
theorem nrI_len (n p : Int) : (nrI n p).length ≤ 2 := by
  unfold nrI nrFS
  split
  · simp
  · split <;> simp
theorem nrI_bd {n p : Int} (hp : 1 ≤ p) (h1 : -20000 ≤ n) (h2 : n ≤ 20000) : ∀ x ∈ nrI n p, -30000 ≤ x ∧ x ≤ 30000 := by
  have bd := nr_bd hp h1 h2
  unfold nrI nrFS
  intro x hx
  split at hx
  · simp at hx; omega
  · split at hx
    · simp at hx; omega
    · simp at hx; omega
theorem tdiv_bd {n p : Int} (hp : 1 ≤ p) (h1 : -40000 ≤ n) (h2 : n ≤ 40000) : -40000 ≤ n.tdiv p ∧ n.tdiv p ≤ 40000 := by
  by_cases h : 0 ≤ n
  · rw [Int.tdiv_eq_ediv_of_nonneg h]
    exact ⟨by have := Int.ediv_nonneg h (show 0 ≤ p by omega); omega, Int.le_trans (Int.ediv_le_self _ h) h2⟩
  · have e : n.tdiv p = -((-n).tdiv p) := by rw [Int.neg_tdiv]; omega
    rw [e, Int.tdiv_eq_ediv_of_nonneg (show 0 ≤ -n by omega)]
    have a := Int.ediv_nonneg (show 0 ≤ -n by omega) (show 0 ≤ p by omega)
    have b := Int.ediv_le_self p (show 0 ≤ -n by omega)
    omega
theorem map_take {f : Int → Int × Int} {l : List Int} {k : Nat} {x : Int} (h : l[k]? = some x) : (l.take (k + 1)).map f = (l.take k).map f ++ [f x] := by
  obtain ⟨hk, rfl⟩ := List.getElem?_eq_some_iff.1 h
  rw [List.take_succ_eq_append_getElem hk, List.map_append]
  rfl
def NewPost (l : List (Int × Int)) (w : World) (e : Ending) (w' : World) : Prop := ∃ v, e = .returned v ∧ OwnH w' w.heap.size v l ∧ Kp w w'

theorem mul_bd2 {x y a b : Int} (x1 : -a ≤ x) (x2 : x ≤ a) (y1 : -b ≤ y) (y2 : y ≤ b) : -(a * b) ≤ x * y ∧ x * y ≤ a * b := by
  have h1 : 0 ≤ (a - x) * (b + y) := Int.mul_nonneg (by omega) (by omega)
  have h2 : 0 ≤ (a + x) * (b - y) := Int.mul_nonneg (by omega) (by omega)
  have h3 : 0 ≤ (a - x) * (b - y) := Int.mul_nonneg (by omega) (by omega)
  have h4 : 0 ≤ (a + x) * (b + y) := Int.mul_nonneg (by omega) (by omega)
  simp only [Int.sub_mul, Int.mul_sub, Int.add_mul, Int.mul_add] at h1 h2 h3 h4
  omega

end Go.Proofs.YtfohhofpfmbheaaDoor

/-
  Lists of lists of hexes: slices that a call owns, each in a block of its own; comparing two that read as the same, marking all cells and finding the marks again.
-/
namespace Go.Proofs.YtfohhofpfmbheaaDoor
open Go.RowKit

/-- The slice v reads as the list L of lists of hexes. -/
def RdHH (w : World) (v : Value) (L : List (List (Int × Int))) : Prop :=
  ∃ (A : Option Addr) (c : Nat) (vs : List Value), v = .slice A L.length c ∧ vs.length = L.length ∧ (0 < L.length → ∃ g off, A = some ⟨g, off, none⟩ ∧ ∀ (i : Nat) (x : Value), vs[i]? = some x → w.cell? ⟨g, off + i, none⟩ = some x) ∧ ∀ (i : Nat) (x : Value) (l : List (Int × Int)), vs[i]? = some x → L[i]? = some l → RdH w x l
theorem RdHH.keep {w w' : World} {v : Value} {L : List (List (Int × Int))} (h : RdHH w v L) (hk : Kp w w') : RdHH w' v L := by
  obtain ⟨A, c, vs, rfl, hl, h0, h1⟩ := h
  refine ⟨A, c, vs, rfl, hl, fun hp => ?_, fun i x l hx hm => (h1 i x l hx hm).keep hk⟩
  obtain ⟨g, off, rfl, hc⟩ := h0 hp
  exact ⟨g, off, rfl, fun i x hx => hk.cell (hc i x hx)⟩
/-- The first mark of the inner list number i. -/
def kk (L : List (List (Int × Int))) (i : Nat) : Int := 1 + 2 * (((L.take i).map List.length).sum : Nat)
theorem kk_zero (L : List (List (Int × Int))) : kk L 0 = 1 := by simp [kk]
theorem kk_succ {L : List (List (Int × Int))} {i : Nat} {l : List (Int × Int)} (h : L[i]? = some l) : kk L (i + 1) = kk L i + 2 * l.length := by
  obtain ⟨hi, rfl⟩ := List.getElem?_eq_some_iff.1 h
  unfold kk
  rw [List.take_succ_eq_append_getElem hi, List.map_append, List.sum_append]
  simp
  omega
theorem kk_bd {L : List (List (Int × Int))} (hi : ∀ l ∈ L, l.length ≤ 100) : ∀ i, i ≤ L.length → 1 ≤ kk L i ∧ kk L i ≤ 1 + 200 * i
  | 0, _ => by simp [kk]
  | i + 1, h => by
    have ih := kk_bd hi i (by omega)
    have hl : L[i]? = some (L[i]'(by omega)) := List.getElem?_eq_getElem _
    have := hi _ (List.mem_of_getElem? hl)
    rw [kk_succ hl]
    omega

end Go.Proofs.YtfohhofpfmbheaaDoor

/-
  Lines of hexes: the program's list of lists is what a plain function says, in memory of its own, or none. Nothing that was there is changed.
-/
namespace Go.Proofs.YtfohhofpfmbheaaDoor
open Go.RowKit

def lineF (aq ar bq br p : Int) : Nat → List (List (Int × Int))
  | 0 => []
  | k + 1 => lineF aq ar bq br p k ++ [cellsL (aq * p + (bq - aq) * k) (ar * p + (br - ar) * k) p]
theorem lineF_len (aq ar bq br p : Int) : ∀ k, (lineF aq ar bq br p k).length = k
  | 0 => rfl
  | k + 1 => by rw [lineF, List.length_append, lineF_len aq ar bq br p k]; rfl
theorem cellsL_len (q r p : Int) : (cellsL q r p).length ≤ 2 := by
  unfold cellsL
  split
  · simpa using nrI_len r p
  · split <;> simpa using nrI_len q p
theorem lineF_in (aq ar bq br p : Int) : ∀ k, ∀ l ∈ lineF aq ar bq br p k, l.length ≤ 2
  | 0, l, h => by cases h
  | k + 1, l, h => by
    rw [lineF, List.mem_append] at h
    rcases h with h | h
    · exact lineF_in aq ar bq br p k l h
    · simp at h
      rw [h]
      exact cellsL_len _ _ _
def onep (n : Int) : Int := if n < 1 then 1 else n
def lineL (aq ar bq br : Int) : List (List (Int × Int)) := lineF aq ar bq br (onep (distH aq ar bq br)) ((distH aq ar bq br).toNat + 1)
theorem dist_bd {aq ar bq br : Int} (ha : okH aq ar = true) (hb : okH bq br = true) : 0 ≤ distH aq ar bq br ∧ distH aq ar bq br ≤ 160 := by
  have A1 := okH_true ha
  have B1 := okH_true hb
  have b1 := absI_bd (bq - aq)
  have b2 := absI_bd (br - ar)
  have b3 := absI_bd (bq - aq + (br - ar))
  unfold distH distI
  omega

theorem cell_one (w : World) (x : Value) (t : TypeId) : ∀ j u, [x][j]? = some u → (w.alloc (.cells #[x] t)).cell? ((⟨w.heap.size, 0, none⟩ : Addr).add j) = some u := by
  intro j u hj
  match j, hj with
  | 0, hj => simp at hj; subst hj; simp [Addr.add]
theorem OwnH.oneCell {w : World} {base : Nat} {v : Value} {l : List (Int × Int)} (h : OwnH w base v l) : v.oneCell' = true := by
  rcases h.2 with ⟨rfl, _⟩ | ⟨g, cap, cur, rfl, _⟩ <;> rfl
theorem OwnH.sl {w : World} {base : Nat} {v : Value} {l : List (Int × Int)} (h : OwnH w base v l) : ∃ A n c, v = .slice A n c := by
  obtain ⟨A, c, rfl, _⟩ := h.rd
  exact ⟨A, _, c, rfl⟩

end Go.Proofs.YtfohhofpfmbheaaDoor

/-
  Lines of hexes: the reference's list of lists is what a plain function says, in memory of its own, or none; both functions at whatever hexes. Nothing that was there is changed.
-/
namespace Go.Proofs.YtfohhofpfmbheaaDoor
open Go.RowKit

theorem cellsL_one (q r : Int) : cellsL q r 1 = [(q, r)] := by
  have h1 : q.tmod 1 = 0 := Int.tmod_one q
  have h2 : nrI r 1 = [r] := by
    unfold nrI
    rw [nrFS_1 (by rw [Int.emod_one]; omega), Int.ediv_one]
  unfold cellsL
  rw [if_pos h1, h2, Int.tdiv_one]
  rfl
theorem lineL_eq {aq ar bq br : Int} {N : Nat} (hN : (N : Int) = distH aq ar bq br) : lineL aq ar bq br = lineF aq ar bq br (onep N) (N + 1) := by
  unfold lineL
  rw [← hN, Int.toNat_natCast]

end Go.Proofs.YtfohhofpfmbheaaDoor

/-
  Lines as plain numbers: each hex of a line's step k has distance k from the beginning and N - k from the end, is valid, and the line back has the same hexes. No program is looked into.
-/
namespace Go.Proofs.YtfohhofpfmbheaaDoor
open Go.RowKit

theorem nrI_mul {m p : Int} (hp : 1 ≤ p) : nrI (m * p) p = [m] := by
  unfold nrI
  rw [nrFS_1 (by rw [Int.mul_emod_left]; omega), Int.mul_ediv_cancel _ (by omega)]
theorem nrI_iv {n p lo hi x : Int} (hp : 1 ≤ p) (h1 : lo * p ≤ n) (h2 : n ≤ hi * p) (hx : x ∈ nrI n p) : lo ≤ x ∧ x ≤ hi := by
  have f1 : lo ≤ n / p := Int.le_ediv_of_mul_le (by omega) h1
  have f2 : n / p ≤ hi := by
    have := Int.ediv_le_ediv (show 0 < p by omega) h2
    rwa [Int.mul_ediv_cancel _ (by omega)] at this
  have em := Int.emod_nonneg n (show p ≠ 0 by omega)
  have ed := Int.ediv_mul_add_emod n p
  have f3 : 0 < n % p → n / p < hi := fun hr => by
    rcases Int.lt_or_eq_of_le f2 with h | h
    · exact h
    · rw [h] at ed
      omega
  unfold nrI nrFS at hx
  split at hx
  · simp at hx
    omega
  · rename_i hc
    have := f3 (by omega)
    split at hx
    · simp at hx
      omega
    · simp at hx
      omega

/-- What a rounded coordinate between a and b at step k of N can be. -/
def Iv (a b k N x : Int) : Prop := (b ≤ a → a - k ≤ x ∧ x ≤ a ∧ b ≤ x ∧ x ≤ b + (N - k)) ∧ (a ≤ b → a ≤ x ∧ x ≤ a + k ∧ b - (N - k) ≤ x ∧ x ≤ b)
theorem iv_of {a b k N x : Int} (hN : 1 ≤ N) (k0 : 0 ≤ k) (k1 : k ≤ N) (d1 : -N ≤ b - a) (d2 : b - a ≤ N) (hx : x ∈ nrI (a * N + (b - a) * k) N) : Iv a b k N x := by
  have e1 : (a - k) * N = a * N - k * N := Int.sub_mul _ _ _
  have e2 : (a + k) * N = a * N + k * N := Int.add_mul _ _ _
  have e3 : (b + (N - k)) * N = b * N + (N * N - k * N) := by rw [Int.add_mul, Int.sub_mul]
  have e4 : (b - (N - k)) * N = b * N - (N * N - k * N) := by rw [Int.sub_mul, Int.sub_mul]
  have e5 : b * N = a * N + (b - a) * N := by rw [Int.sub_mul]; omega
  have p1 : 0 ≤ (N + (b - a)) * k := Int.mul_nonneg (by omega) k0
  have p2 : 0 ≤ (N - (b - a)) * k := Int.mul_nonneg (by omega) k0
  have p3 : 0 ≤ (N + (b - a)) * (N - k) := Int.mul_nonneg (by omega) (by omega)
  have p4 : 0 ≤ (N - (b - a)) * (N - k) := Int.mul_nonneg (by omega) (by omega)
  have c1 : k * N = N * k := Int.mul_comm _ _
  rw [Int.add_mul] at p1
  rw [Int.sub_mul] at p2
  rw [Int.add_mul, Int.mul_sub, Int.mul_sub] at p3
  rw [Int.sub_mul, Int.mul_sub, Int.mul_sub] at p4
  refine ⟨fun h => ?_, fun h => ?_⟩
  · have q1 : 0 ≤ (a - b) * k := Int.mul_nonneg (by omega) k0
    have q2 : 0 ≤ (a - b) * (N - k) := Int.mul_nonneg (by omega) (by omega)
    have f1 : (a - b) * k = -((b - a) * k) := by rw [← Int.neg_mul]; congr 1; omega
    have f2 : (a - b) * (N - k) = -((b - a) * N) + (b - a) * k := by rw [Int.mul_sub, show a - b = -(b - a) by omega, Int.neg_mul, Int.neg_mul]; omega
    obtain ⟨x1, x2⟩ := nrI_iv (lo := a - k) (hi := a) hN (by omega) (by omega) hx
    obtain ⟨x3, x4⟩ := nrI_iv (lo := b) (hi := b + (N - k)) hN (by omega) (by omega) hx
    omega
  · have q1 : 0 ≤ (b - a) * k := Int.mul_nonneg (by omega) k0
    have q2 : 0 ≤ (b - a) * (N - k) := Int.mul_nonneg (by omega) (by omega)
    rw [Int.mul_sub] at q2
    obtain ⟨x1, x2⟩ := nrI_iv (lo := a) (hi := a + k) hN (by omega) (by omega) hx
    obtain ⟨x3, x4⟩ := nrI_iv (lo := b - (N - k)) (hi := b) hN (by omega) (by omega) hx
    omega

theorem dist_of {u v k : Int} (hk : 0 ≤ k) (a : -k ≤ u) (b : u ≤ k) (c : -k ≤ v) (d : v ≤ k) (e : -k ≤ u + v) (f : u + v ≤ k) (h : u = k ∨ u = -k ∨ v = k ∨ v = -k ∨ u + v = k ∨ u + v = -k) : distI u v = k := by
  have b1 := absI_bd u
  have b2 := absI_bd v
  have b3 := absI_bd (u + v)
  unfold distI
  omega
theorem dist_inv {u v N : Int} (h : N = distI u v) : (-N ≤ u ∧ u ≤ N ∧ -N ≤ v ∧ v ≤ N ∧ -N ≤ u + v ∧ u + v ≤ N) ∧ (u = N ∨ u = -N ∨ v = N ∨ v = -N ∨ u + v = N ∨ u + v = -N) := by
  have b1 := absI_bd u
  have b2 := absI_bd v
  have b3 := absI_bd (u + v)
  unfold distI at h
  omega

/-- The three ways in which a hex of a step lies on the line. -/
def OnL (aq ar bq br k N x y : Int) : Prop :=
  (bq - aq = N ∧ x = aq + k ∧ Iv ar br k N y) ∨ (bq - aq = -N ∧ x = aq - k ∧ Iv ar br k N y) ∨ (br - ar = N ∧ y = ar + k ∧ Iv aq bq k N x) ∨ (br - ar = -N ∧ y = ar - k ∧ Iv aq bq k N x) ∨
  (bq - aq + (br - ar) = N ∧ x + y = aq + ar + k ∧ Iv aq bq k N x) ∨ (bq - aq + (br - ar) = -N ∧ x + y = aq + ar - k ∧ Iv aq bq k N x)

theorem cancel {a b N : Int} (hN : 1 ≤ N) (h : a * N = b * N) : a = b := Int.eq_of_mul_eq_mul_right (by omega) h
theorem tmod_mul {m p : Int} : (m * p).tmod p = 0 := Int.mul_tmod_left m p
theorem tdiv_mul {m p : Int} (hp : 1 ≤ p) : (m * p).tdiv p = m := Int.mul_tdiv_cancel m (by omega)
theorem tdiv_exact {n p : Int} (h : n.tmod p = 0) : n.tdiv p * p = n := by
  have := Int.tdiv_mul_add_tmod n p
  omega
theorem exact_mem {n p x : Int} (hp : 1 ≤ p) (h : x * p = n) : x ∈ nrI n p := by
  rw [← h, nrI_mul hp]
  simp

theorem onL_of {aq ar bq br k N x y : Int} (hN : 1 ≤ N) (hd : N = distI (bq - aq) (br - ar)) (k0 : 0 ≤ k) (k1 : k ≤ N) (h : (x, y) ∈ cellsL (aq * N + (bq - aq) * k) (ar * N + (br - ar) * k) N) : OnL aq ar bq br k N x y := by
  obtain ⟨⟨i1, i2, i3, i4, i5, i6⟩, dom⟩ := dist_inv hd
  have kc : N * k = k * N := Int.mul_comm _ _
  have nk : -N * k = -(k * N) := by rw [Int.neg_mul, kc]
  have ap : (aq + k) * N = aq * N + k * N := Int.add_mul _ _ _
  have am : (aq - k) * N = aq * N - k * N := Int.sub_mul _ _ _
  have rp : (ar + k) * N = ar * N + k * N := Int.add_mul _ _ _
  have rm : (ar - k) * N = ar * N - k * N := Int.sub_mul _ _ _
  have sp : (aq + ar + k) * N = aq * N + ar * N + k * N := by rw [Int.add_mul, Int.add_mul]
  have sm : (aq + ar - k) * N = aq * N + ar * N - k * N := by rw [Int.sub_mul, Int.add_mul]
  have ds : (bq - aq) * k + (br - ar) * k = (bq - aq + (br - ar)) * k := (Int.add_mul _ _ _).symm
  unfold cellsL at h
  by_cases hq : (aq * N + (bq - aq) * k).tmod N = 0
  · rw [if_pos hq] at h
    simp only [List.mem_map, Prod.mk.injEq] at h
    obtain ⟨y', hy, rfl, rfl⟩ := h
    have hx := tdiv_exact hq
    generalize (aq * N + (bq - aq) * k).tdiv N = x at hx ⊢
    have ivx := iv_of hN k0 k1 i1 i2 (exact_mem hN hx)
    have ivy := iv_of hN k0 k1 i3 i4 hy
    rcases dom with e | e | e | e | e | e
    · rw [e] at hx
      exact .inl ⟨e, cancel hN (by omega), ivy⟩
    · rw [e] at hx
      exact .inr (.inl ⟨e, cancel hN (by omega), ivy⟩)
    · rw [e, show ar * N + N * k = (ar + k) * N by omega, nrI_mul hN] at hy
      simp at hy
      exact .inr (.inr (.inl ⟨e, hy, ivx⟩))
    · rw [e, show ar * N + -N * k = (ar - k) * N by omega, nrI_mul hN] at hy
      simp at hy
      exact .inr (.inr (.inr (.inl ⟨e, hy, ivx⟩)))
    · rw [e] at ds
      rw [show ar * N + (br - ar) * k = (aq + ar + k - x) * N by rw [Int.sub_mul (aq + ar + k) x N, sp]; omega, nrI_mul hN] at hy
      simp at hy
      exact .inr (.inr (.inr (.inr (.inl ⟨e, by omega, ivx⟩))))
    · rw [e] at ds
      rw [show ar * N + (br - ar) * k = (aq + ar - k - x) * N by rw [Int.sub_mul (aq + ar - k) x N, sm]; omega, nrI_mul hN] at hy
      simp at hy
      exact .inr (.inr (.inr (.inr (.inr ⟨e, by omega, ivx⟩))))
  · rw [if_neg hq] at h
    by_cases hr : (ar * N + (br - ar) * k).tmod N = 0
    · rw [if_pos hr] at h
      simp only [List.mem_map, Prod.mk.injEq] at h
      obtain ⟨x', hx, rfl, rfl⟩ := h
      have hy := tdiv_exact hr
      generalize (ar * N + (br - ar) * k).tdiv N = y at hy ⊢
      have ivx := iv_of hN k0 k1 i1 i2 hx
      rcases dom with e | e | e | e | e | e
      · refine absurd ?_ hq
        rw [e, show aq * N + N * k = (aq + k) * N by omega, tmod_mul]
      · refine absurd ?_ hq
        rw [e, show aq * N + -N * k = (aq - k) * N by omega, tmod_mul]
      · rw [e] at hy
        exact .inr (.inr (.inl ⟨e, cancel hN (by omega), ivx⟩))
      · rw [e] at hy
        exact .inr (.inr (.inr (.inl ⟨e, cancel hN (by omega), ivx⟩)))
      · rw [e] at ds
        refine absurd ?_ hq
        rw [show aq * N + (bq - aq) * k = (aq + ar + k - y) * N by rw [Int.sub_mul (aq + ar + k) y N, sp]; omega, tmod_mul]
      · rw [e] at ds
        refine absurd ?_ hq
        rw [show aq * N + (bq - aq) * k = (aq + ar - k - y) * N by rw [Int.sub_mul (aq + ar - k) y N, sm]; omega, tmod_mul]
    · rw [if_neg hr] at h
      simp only [List.mem_map, Prod.mk.injEq] at h
      obtain ⟨x', hx, rfl, rfl⟩ := h
      have ivx := iv_of hN k0 k1 i1 i2 hx
      rcases dom with e | e | e | e | e | e
      · refine absurd ?_ hq
        rw [e, show aq * N + N * k = (aq + k) * N by omega, tmod_mul]
      · refine absurd ?_ hq
        rw [e, show aq * N + -N * k = (aq - k) * N by omega, tmod_mul]
      · refine absurd ?_ hr
        rw [e, show ar * N + N * k = (ar + k) * N by omega, tmod_mul]
      · refine absurd ?_ hr
        rw [e, show ar * N + -N * k = (ar - k) * N by omega, tmod_mul]
      · rw [e] at ds
        rw [show aq * N + (bq - aq) * k + (ar * N + (br - ar) * k) = (aq + ar + k) * N by omega, tdiv_mul hN]
        exact .inr (.inr (.inr (.inr (.inl ⟨e, by omega, ivx⟩))))
      · rw [e] at ds
        rw [show aq * N + (bq - aq) * k + (ar * N + (br - ar) * k) = (aq + ar - k) * N by omega, tdiv_mul hN]
        exact .inr (.inr (.inr (.inr (.inr ⟨e, by omega, ivx⟩))))

theorem onL_dist {aq ar bq br k N x y : Int} (hd : N = distI (bq - aq) (br - ar)) (k0 : 0 ≤ k) (k1 : k ≤ N) (a1 : -40 ≤ aq ∧ aq ≤ 40 ∧ -40 ≤ ar ∧ ar ≤ 40) (b1 : -40 ≤ bq ∧ bq ≤ 40 ∧ -40 ≤ br ∧ br ≤ 40) (h : OnL aq ar bq br k N x y) :
    okH x y = true ∧ distH aq ar x y = k ∧ distH x y bq br = N - k := by
  obtain ⟨⟨i1, i2, i3, i4, i5, i6⟩, _⟩ := dist_inv hd
  unfold distH
  clear hd
  have key : (-40 ≤ x ∧ x ≤ 40 ∧ -40 ≤ y ∧ y ≤ 40) ∧ ((-k ≤ x - aq ∧ x - aq ≤ k ∧ -k ≤ y - ar ∧ y - ar ≤ k ∧ -k ≤ x - aq + (y - ar) ∧ x - aq + (y - ar) ≤ k) ∧ (x - aq = k ∨ x - aq = -k ∨ y - ar = k ∨ y - ar = -k ∨ x - aq + (y - ar) = k ∨ x - aq + (y - ar) = -k)) ∧
      ((-(N - k) ≤ bq - x ∧ bq - x ≤ N - k ∧ -(N - k) ≤ br - y ∧ br - y ≤ N - k ∧ -(N - k) ≤ bq - x + (br - y) ∧ bq - x + (br - y) ≤ N - k) ∧ (bq - x = N - k ∨ bq - x = -(N - k) ∨ br - y = N - k ∨ br - y = -(N - k) ∨ bq - x + (br - y) = N - k ∨ bq - x + (br - y) = -(N - k))) := by
    rcases h with ⟨e, rfl, iv⟩ | ⟨e, rfl, iv⟩ | ⟨e, rfl, iv⟩ | ⟨e, rfl, iv⟩ | ⟨e, f, iv⟩ | ⟨e, f, iv⟩
    · have := iv.1 (by omega)
      omega
    · have := iv.2 (by omega)
      omega
    · have := iv.1 (by omega)
      omega
    · have := iv.2 (by omega)
      omega
    · have := iv.2 (by omega)
      omega
    · have := iv.1 (by omega)
      omega
  obtain ⟨v, ⟨⟨u1, u2, u3, u4, u5, u6⟩, ud⟩, ⟨⟨w1, w2, w3, w4, w5, w6⟩, wd⟩⟩ := key
  exact ⟨okH_mk v.1 v.2.1 v.2.2.1 v.2.2.2, dist_of k0 u1 u2 u3 u4 u5 u6 ud, dist_of (by omega) w1 w2 w3 w4 w5 w6 wd⟩

theorem lineF_at (aq ar bq br p : Int) : ∀ (m i : Nat), i < m → (lineF aq ar bq br p m)[i]? = some (cellsL (aq * p + (bq - aq) * i) (ar * p + (br - ar) * i) p)
  | m + 1, i, h => by
    rw [lineF]
    rcases Nat.lt_or_ge i m with hi | hi
    · rw [List.getElem?_append_left (by rw [lineF_len]; exact hi)]
      exact lineF_at aq ar bq br p m i hi
    · obtain rfl : i = m := by omega
      rw [List.getElem?_append_right (by rw [lineF_len]; omega), lineF_len]
      simp

theorem distI_neg (u v : Int) : distI (-u) (-v) = distI u v := by
  have b1 := absI_bd u
  have b2 := absI_bd v
  have b3 := absI_bd (u + v)
  have c1 := absI_bd (-u)
  have c2 := absI_bd (-v)
  have c3 := absI_bd (-u + -v)
  unfold distI
  omega
theorem distH_comm (aq ar bq br : Int) : distH bq br aq ar = distH aq ar bq br := by
  unfold distH
  rw [← distI_neg]
  congr 1 <;> omega
/-- A point of the line back. -/
theorem back_pt (a b : Int) (N i : Nat) (hi : i ≤ N) : b * (N : Int) + (a - b) * ((N - i : Nat) : Int) = a * (N : Int) + (b - a) * (i : Int) := by
  rw [show ((N - i : Nat) : Int) = (N : Int) - i by omega, Int.mul_sub, Int.sub_mul, Int.sub_mul, Int.sub_mul]
  omega

end Go.Proofs.YtfohhofpfmbheaaDoor

/-
  Lists of lists of integers: the laws' size, copy (in memory of its own), comparison of two that read as the same, and marking of a copy.
-/
namespace Go.Proofs.YtfohhofpfmbheaaDoor
open Go.RowKit

/-- The slice v owns the list L of lists of integers; vs: the inner slices. -/
structure OwnII (w : World) (base : Nat) (v : Value) (L : List (List Int)) (vs : List Value) : Prop where
  row : w.ownsRow base 26 1 v L.length vs
  inn : ∀ (i : Nat) (x : Value) (l : List Int), vs[i]? = some x → L[i]? = some l → OwnI w base x l
  out : ∀ (i : Nat) (x : Value) (g : Nat), vs[i]? = some x → x.ownBlock = some g → v.ownBlock ≠ some g
  two : ∀ (i j : Nat) (x y : Value) (g : Nat), i ≠ j → vs[i]? = some x → vs[j]? = some y → x.ownBlock = some g → y.ownBlock ≠ some g
theorem OwnII.len {w : World} {base : Nat} {v : Value} {L : List (List Int)} {vs : List Value} (h : OwnII w base v L vs) : vs.length = L.length := by
  have : vs.length = L.length * 1 := h.row.1
  omega
theorem OwnII.keep {w w' : World} {base : Nat} {v : Value} {L : List (List Int)} {vs : List Value} (h : OwnII w base v L vs) (k : Kp w w') : OwnII w' base v L vs :=
  ⟨ownsRow_keep h.row k, fun i x l hx hl => (h.inn i x l hx hl).keep k, h.out, h.two⟩
theorem OwnII.base {w : World} {base b : Nat} {v : Value} {L : List (List Int)} {vs : List Value} (h : OwnII w base v L vs) (hb : b ≤ base) : OwnII w b v L vs :=
  ⟨ownsRow_base h.row hb, fun i x l hx hl => (h.inn i x l hx hl).base hb, h.out, h.two⟩
theorem OwnII.nil (w : World) (base : Nat) : OwnII w base (.slice none 0 0) [] [] :=
  ⟨World.ownsRow_nil w base _ 1, fun i x l hx _ => by simp at hx, fun i x g hx _ => by simp at hx, fun i j x y g _ hx => by simp at hx⟩

theorem OwnII.snoc {w0 w w' : World} {base : Nat} {v v' x : Value} {L : List (List Int)} {vs : List Value} {l : List Int} {T : TypeId} (h : OwnII w0 base v L vs) (k : Kp w0 w) (hx : OwnI w w0.heap.size x l) (hb : base ≤ w0.heap.size)
    (ho : w'.ownsRow base 26 1 v' (L.length + 1) (vs ++ [x])) (hg : (w.alloc (.cells #[x] T)).grownBy w' v.ownBlock) (ha : v'.ownBlock = v.ownBlock ∨ v'.ownBlock = some (w.alloc (.cells #[x] T)).heap.size) :
    OwnII w' base v' (L ++ [l]) (vs ++ [x]) := by
  have hlen := h.len
  have ka : Kp w (w.alloc (.cells #[x] T)) := (Kp.refl w).alloc _
  have hsz : (w.alloc (.cells #[x] T)).heap.size = w.heap.size + 1 := by simp
  have kz := k.size
  have vlt : ∀ g, v.ownBlock = some g → g < w0.heap.size := fun g e => (World.ownsRow.lt h.row g e).2
  have xge : ∀ g, x.ownBlock = some g → w0.heap.size ≤ g ∧ g < w.heap.size := fun g e => World.ownsRow.lt hx g e
  have ilt : ∀ (i : Nat) (y : Value) (g : Nat), vs[i]? = some y → y.ownBlock = some g → g < w0.heap.size := fun i y g hy e => by
    have hi : i < L.length := by rw [← hlen]; exact (List.getElem?_eq_some_iff.1 hy).1
    exact (World.ownsRow.lt (h.inn i y _ hy (List.getElem?_eq_getElem hi)) g e).2
  refine ⟨by rw [List.length_append]; exact ho, fun i y m hy hm => ?_, fun i y g hy e => ?_, fun i j y z g hij hy hz e => ?_⟩
  · rcases snoc_cases hy with ⟨hi, hy⟩ | ⟨rfl, rfl⟩
    · rw [List.getElem?_append_left (by omega)] at hm
      have o := ((h.inn i y m hy hm).keep k).keep ka
      refine World.ownsRow.kept o hg ?_
      cases hv : y.ownBlock
      · exact .inl rfl
      · rename_i g
        exact .inr fun e => h.out i y g hy hv e.symm
    · rw [List.getElem?_append_right (by omega)] at hm
      simp [hlen] at hm
      subst hm
      refine World.ownsRow.kept ((hx.base hb).keep ka) hg ?_
      cases hv : y.ownBlock
      · exact .inl rfl
      · rename_i g
        refine .inr fun e => ?_
        have h1 := (xge g hv).1
        have h2 := vlt g e.symm
        omega
  · rcases snoc_cases hy with ⟨hi, hy⟩ | ⟨rfl, rfl⟩
    · have h1 := ilt i y g hy e
      rcases ha with ha | ha
      · rw [ha]
        exact h.out i y g hy e
      · rw [ha]
        intro e2
        have := Option.some.inj e2
        omega
    · have h1 := xge g e
      rcases ha with ha | ha
      · rw [ha]
        intro e2
        have := vlt g e2
        omega
      · rw [ha]
        intro e2
        have := Option.some.inj e2
        omega
  · rcases snoc_cases hy with ⟨hi, hy1⟩ | ⟨rfl, rfl⟩
    · rcases snoc_cases hz with ⟨hj, hz1⟩ | ⟨rfl, rfl⟩
      · exact h.two i j y z g hij hy1 hz1 e
      · intro e2
        have h1 := ilt i y g hy1 e
        have h2 := (xge g e2).1
        omega
    · rcases snoc_cases hz with ⟨hj, hz1⟩ | ⟨rfl, rfl⟩
      · intro e2
        have h1 := ilt j z g hz1 e2
        have h2 := (xge g e).1
        omega
      · exact absurd rfl hij

/-- The slice v reads as the list L of lists of integers. -/
def RdII (w : World) (v : Value) (L : List (List Int)) : Prop :=
  ∃ (A : Option Addr) (c : Nat) (vs : List Value), v = .slice A L.length c ∧ vs.length = L.length ∧ (0 < L.length → ∃ g off, A = some ⟨g, off, none⟩ ∧ ∀ (i : Nat) (x : Value), vs[i]? = some x → w.cell? ⟨g, off + i, none⟩ = some x) ∧ ∀ (i : Nat) (x : Value) (l : List Int), vs[i]? = some x → L[i]? = some l → RdI w x l
theorem RdII.keep {w w' : World} {v : Value} {L : List (List Int)} (h : RdII w v L) (hk : Kp w w') : RdII w' v L := by
  obtain ⟨A, c, vs, rfl, hl, h0, h1⟩ := h
  refine ⟨A, c, vs, rfl, hl, fun hp => ?_, fun i x l hx hm => (h1 i x l hx hm).keep hk⟩
  obtain ⟨g, off, rfl, hc⟩ := h0 hp
  exact ⟨g, off, rfl, fun i x hx => hk.cell (hc i x hx)⟩
theorem OwnII.rd {w : World} {base : Nat} {v : Value} {L : List (List Int)} {vs : List Value} (h : OwnII w base v L vs) : RdII w v L := by
  have hlen := h.len
  have hr := h.row
  rcases h.row.2 with ⟨hv, hn⟩ | ⟨g, cap, cur, hv, _⟩
  · exact ⟨none, 0, vs, by rw [hn]; exact hv, hlen, fun h0 => by omega, fun i x l hx hl => (h.inn i x l hx hl).rd⟩
  · refine ⟨_, _, vs, hv, hlen, fun _ => ⟨g, 0, rfl, fun i x hx => ?_⟩, fun i x l hx hl => (h.inn i x l hx hl).rd⟩
    rw [hv] at hr
    have hi : i < vs.length := (List.getElem?_eq_some_iff.1 hx).1
    rw [Nat.zero_add]
    exact (World.ownsRow.cellAt hr i (by omega)).trans hx

theorem lt_at {α : Type} {l : List α} {i : Nat} {t : α} (h : l[i]? = some t) : i < l.length := (List.getElem?_eq_some_iff.1 h).1
theorem liveN1 {w : World} {base g n cap : Nat} {e : TypeId} {ys : List Value} (h : w.ownsRow base e 1 (.slice (some ⟨g, 0, none⟩) n cap) n ys) {j : Nat} (hj : j < n) : (∃ u, w.cell? ⟨g, j, none⟩ = some u) ∧ w.frozen? ⟨g, j, none⟩ = false := by
  have hlen : ys.length = n * 1 := h.1
  exact ⟨⟨_, (h.cellAt j (by omega)).trans (List.getElem?_eq_getElem (by omega))⟩, h.frozenAt j⟩

theorem infoIntS : (Tryd.prog.info? 26).map (fun i => (i.zero, i.size, i.bytes)) = some (some (.slice none 0 0), 1, 24) := by kernel_rfl
/-- A row of slices in block g, the first k of which own lists, each in a block of its own behind g. -/
structure PreII (w : World) (g n k : Nat) (L : List (List Int)) (ys : List Value) : Prop where
  row : w.ownsRow g 26 1 (.slice (some ⟨g, 0, none⟩) n n) n ys
  inn : ∀ (j : Nat) (x : Value) (l : List Int), j < k → ys[j]? = some x → L[j]? = some l → OwnI w (g + 1) x l
  two : ∀ (i j : Nat) (x y : Value) (b : Nat), i < k → j < k → i ≠ j → ys[i]? = some x → ys[j]? = some y → x.ownBlock = some b → y.ownBlock ≠ some b
theorem PreII.step {w w1 : World} {g n k : Nat} {L : List (List Int)} {ys : List Value} {x : Value} {l : List Int} (h : PreII w g n k L ys) (hk : k < n) (hl : L[k]? = some l) (hL : L.length = n) (k1 : Kp w w1) (hg : g < w.heap.size) (hx : OwnI w1 w.heap.size x l) :
    PreII (w1.setCell ⟨g, k, none⟩ x) g n (k + 1) L (ys.set k x) := by
  have hlen : ys.length = n * 1 := h.row.1
  have row1 := ownsRow_keep h.row k1
  have far : ∀ {v l'}, OwnI w1 (g + 1) v l' → OwnI (w1.setCell ⟨g, k, none⟩ x) (g + 1) v l' := fun {v l'} o => o.far (o.not (g := g) (by omega)) x
  have old : ∀ (j : Nat) (y : Value), j < k → ys[j]? = some y → ∀ b, y.ownBlock = some b → b < w.heap.size := fun j y hj hy b hb => by
    have hjl : L[j]? = some (L[j]'(by omega)) := List.getElem?_eq_getElem _
    exact (World.ownsRow.lt (h.inn j y _ hj hy hjl) b hb).2
  have new : ∀ b, x.ownBlock = some b → w.heap.size ≤ b := fun b hb => (World.ownsRow.lt hx b hb).1
  have at' : ∀ (j : Nat) (y : Value), j < k + 1 → (ys.set k x)[j]? = some y → (j < k ∧ ys[j]? = some y) ∨ (j = k ∧ y = x) := fun j y hj hy => by
    by_cases e : k = j
    · subst e
      rw [List.getElem?_set_self (by omega)] at hy
      exact .inr ⟨rfl, (Option.some.inj hy).symm⟩
    · rw [List.getElem?_set_ne e] at hy
      exact .inl ⟨by omega, hy⟩
  refine ⟨(row1.stored k x).1, fun j y m hj hy hm => ?_, fun i j y z b hi hj hij hy hz hb => ?_⟩
  · rcases at' j y hj hy with ⟨hj', hy'⟩ | ⟨rfl, rfl⟩
    · exact far ((h.inn j y m hj' hy' hm).keep k1)
    · rw [hl] at hm
      obtain rfl := Option.some.inj hm
      exact far (hx.base (by omega))
  · rcases at' i y hi hy with ⟨hi', hy'⟩ | ⟨rfl, rfl⟩
    · rcases at' j z hj hz with ⟨hj', hz'⟩ | ⟨rfl, rfl⟩
      · exact h.two i j y z b hi' hj' hij hy' hz' hb
      · intro e
        have := old i y hi' hy' b hb
        have := new b e
        omega
    · rcases at' j z hj hz with ⟨hj', hz'⟩ | ⟨rfl, rfl⟩
      · intro e
        have := old j z hj' hz' b e
        have := new b hb
        omega
      · exact absurd rfl hij

/-- What the marking of lists of lists needs of those from the q-th on. -/
def RestII (w : World) (base q : Nat) (L : List (List Int)) (vs : List Value) : Prop := ∀ (j : Nat) (x : Value) (l : List Int), q ≤ j → vs[j]? = some x → L[j]? = some l → OwnI w base x l

end Go.Proofs.YtfohhofpfmbheaaDoor

/-
  A store into a list of integers that the call owns; a new list of zeros.
-/
namespace Go.Proofs.YtfohhofpfmbheaaDoor
open Go.RowKit

theorem cellsI_set (l : List Int) (k : Nat) (x : Int) : cellsI (l.set k x) = (cellsI l).set k (.int .i64 x) := by simp [cellsI, List.map_set]
theorem cellsI_zero (n : Nat) : (madeCells #[.int .i64 0] n).toList = cellsI (List.replicate n 0) := by
  apply List.ext_getElem?
  intro i
  by_cases h : i < n
  · have : i % 1 = 0 := Nat.mod_one i
    simp [madeCells, cellsI, h, this]
  · simp [madeCells, cellsI, h]
/-- The cell at k, that it may be written, and what is owned when it has been. -/
theorem OwnI.put {w : World} {base n g cap : Nat} {l : List Int} (h : OwnI w base (.slice (some ⟨g, 0, none⟩) n cap) l) (hn : l.length = n) {k : Nat} (hk : k < n) (x : Int) :
    (∃ u, w.cell? ⟨g, k, none⟩ = some u) ∧ w.frozen? ⟨g, k, none⟩ = false ∧ OwnI (w.setCell ⟨g, k, none⟩ (.int .i64 x)) base (.slice (some ⟨g, 0, none⟩) n cap) (l.set k x) := by
  subst hn
  have ho : w.ownsRow base 3 1 (.slice (some ⟨g, 0, none⟩) l.length cap) l.length (cellsI l) := h
  have hlen : (cellsI l).length = l.length * 1 := ho.1
  refine ⟨⟨_, (ho.cellAt k (by omega)).trans (List.getElem?_eq_getElem (by omega))⟩, ho.frozenAt k, ?_⟩
  have o1 := (ho.stored k (.int .i64 x)).1
  unfold OwnI
  rw [cellsI_set, List.length_set]
  exact o1

theorem ownI_zero (w : World) (n : Nat) (hn : n ≤ 1048576) : OwnI (w.alloc (.cells (madeCells #[.int .i64 0] n) 3)) w.heap.size (.slice (some ⟨w.heap.size, 0, none⟩) n n) (List.replicate n 0) := by
  have own0 : (w.alloc (.cells (madeCells #[.int .i64 0] n) 3)).ownsRow w.heap.size 3 1 (.slice (some ⟨w.heap.size, 0, none⟩) n n) n (madeCells #[.int .i64 0] n).toList :=
    World.ownsRow_lit w _ n (Nat.le_refl _) (by simp only [maxLen]; omega) (by rw [size_madeCells, Nat.mul_one])
  rw [cellsI_zero] at own0
  unfold OwnI
  rw [List.length_replicate]
  exact own0

end Go.Proofs.YtfohhofpfmbheaaDoor
