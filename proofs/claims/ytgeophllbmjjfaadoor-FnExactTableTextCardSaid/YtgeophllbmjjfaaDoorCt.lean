/-
  The laws' own functions on combat tables: the size, the copy (in memory of its own), the comparison of two that read as the same lists; an argument that is a table reads as its lists. Nothing that was there is changed.
-/
import Derived.Test.YtgeophllbmjjfaaDoorOdd
import Derived.Test.YtgeophllbmjjfaaDoorRdS
namespace Go.Proofs.YtgeophllbmjjfaaDoor
open Go.ChangeShapes Go.WideShapes Go.ChangeAt Go.RowKit Go.Joins Go.Deep

abbrev cv (c : Value) (d : Int) (r : Value) : Value := .agg #[c, .int .i64 d, r]
/-- What an argument's table is: two slices that read as lists, within Go's own bounds. -/
structure CtIn (w : World) (c r : Value) (co : List (Int × Int)) (rs : List (List Int)) : Prop where
  rc : RdH w c co
  rr : RdII w r rs
  bc : co.length ≤ 9223372036854775807
  br : rs.length ≤ 9223372036854775807
  bl : ∀ l ∈ rs, l.length ≤ 9223372036854775807
/-- The same, all of it small. -/
structure CtAt (w : World) (c r : Value) (co : List (Int × Int)) (rs : List (List Int)) : Prop where
  rc : RdH w c co
  rr : RdII w r rs
  bc : co.length ≤ 1048576
  br : rs.length ≤ 1048576
  bl : ∀ l ∈ rs, l.length ≤ 1048576
def ctSm (co : List (Int × Int)) (rs : List (List Int)) : Prop := co.length ≤ 1048576 ∧ rs.length ≤ 1048576 ∧ ∀ l ∈ rs, l.length ≤ 1048576
theorem CtIn.keep {w w' : World} {c r : Value} {co : List (Int × Int)} {rs : List (List Int)} (h : CtIn w c r co rs) (k : Kp w w') : CtIn w' c r co rs := ⟨h.rc.keep k, h.rr.keep k, h.bc, h.br, h.bl⟩
theorem CtAt.keep {w w' : World} {c r : Value} {co : List (Int × Int)} {rs : List (List Int)} (h : CtAt w c r co rs) (k : Kp w w') : CtAt w' c r co rs := ⟨h.rc.keep k, h.rr.keep k, h.bc, h.br, h.bl⟩
theorem CtIn.at {w : World} {c r : Value} {co : List (Int × Int)} {rs : List (List Int)} (h : CtIn w c r co rs) (s : ctSm co rs) : CtAt w c r co rs := ⟨h.rc, h.rr, s.1, s.2.1, s.2.2⟩

set_option maxRecDepth 100000 in
set_option maxHeartbeats 1000000 in
theorem szCombatTable_any (c r : Value) (d : Int) (co : List (Int × Int)) (rs : List (List Int)) (left : Int) (w : World) (h : CtIn w c r co rs) (h0 : 0 ≤ left) (h1 : left ≤ 1048576) :
    Calls Tryd.prog 5 #[cv c d r, .int .i64 left] w (SzPost (ctSm co rs) w) := by
  have HL := Lib.hid h
  have KA : Kp w (w.alloc (.cells #[c, .int .i64 d, r] 25)) := (Kp.refl w).alloc _
  have f1 : (w.alloc (.cells #[c, .int .i64 d, r] 25)).cell? ⟨w.heap.size, 2, none⟩ = some r := by simp [go_sem]
  obtain ⟨A, cc, rfl, _⟩ := h.rc
  have hb := h.bc
  obtain ⟨n, hn⟩ : ∃ n, co.length = n := ⟨_, rfl⟩
  have HN := Lib.hid hn
  rw [hn] at hb f1 KA ⊢
  clear h hn
  by_cases a1 : (n : Int) ≤ left
  · have a1' : ¬ (left - n) < 0 := by omega
    go_enter Tryd.func5, Tryd.ntmps5
    go_wp2_with fail
    refine (szOddsS_yes _ _ _ _ _ a1 h0 h1).mono ?_
    rintro e1 w1 ⟨rfl, rfl⟩
    go_wp2_with fail
    refine (szIntSS_any _ rs _ _ (HL.out.rr.keep KA) (by omega) (by omega) HL.out.br HL.out.bl).mono ?_
    rintro e2 w2 ⟨r2, rfl, v1, v2, v3, k2⟩
    have H4 := Lib.hid v3
    clear v3
    by_cases hneg2 : r2 < 0
    · go_wp2_with fail
      go_ret
      exact ⟨_, rfl, by omega, by omega, fun h => absurd h (by omega), KA.trans k2⟩
    · go_wp2_with fail
      go_ret
      exact ⟨_, rfl, by omega, by omega, fun _ => ⟨by have := HN.out; omega, H4.out (by omega)⟩, KA.trans k2⟩
  · go_enter Tryd.func5, Tryd.ntmps5
    go_wp2_with fail
    refine (szOddsS_no _ _ _ _ _ (by omega) h0 h1 hb).mono ?_
    rintro e1 w1 ⟨rfl, rfl⟩
    go_wp2_with fail
    go_ret
    exact ⟨_, rfl, by omega, by omega, fun h => absurd h (by omega), KA⟩

/-- A copied table: its columns, its rows, all in blocks of their own from a number on. -/
structure OwnC (w : World) (base : Nat) (c r : Value) (co : List (Int × Int)) (rs : List (List Int)) (vs : List Value) : Prop where
  oc : OwnO w base c co
  or : OwnII w base r rs vs
  cr : ∀ g, c.ownBlock = some g → r.ownBlock ≠ some g
  ci : ∀ g, c.ownBlock = some g → ∀ (j : Nat) (x : Value), vs[j]? = some x → x.ownBlock ≠ some g
theorem OwnC.keep {w w' : World} {base : Nat} {c r : Value} {co : List (Int × Int)} {rs : List (List Int)} {vs : List Value} (h : OwnC w base c r co rs vs) (k : Kp w w') : OwnC w' base c r co rs vs := ⟨h.oc.keep k, h.or.keep k, h.cr, h.ci⟩
theorem OwnC.at {w w0 : World} {base : Nat} {c r c0 r0 : Value} {co : List (Int × Int)} {rs : List (List Int)} {vs : List Value} (h : OwnC w base c r co rs vs) (s : CtAt w0 c0 r0 co rs) : CtAt w c r co rs := ⟨h.oc.rd, h.or.rd, s.bc, s.br, s.bl⟩
theorem OwnC.base {w : World} {base b : Nat} {c r : Value} {co : List (Int × Int)} {rs : List (List Int)} {vs : List Value} (h : OwnC w base c r co rs vs) (hb : b ≤ base) : OwnC w b c r co rs vs := ⟨h.oc.base hb, h.or.base hb, h.cr, h.ci⟩
theorem OwnII.far {w : World} {base : Nat} {v : Value} {L : List (List Int)} {vs : List Value} (h : OwnII w base v L vs) {g j : Nat} (hg : g < base) (u : Value) : OwnII (w.setCell ⟨g, j, none⟩ u) base v L vs := by
  have hlen := h.len
  refine ⟨World.ownsRow.kept h.row (grown_set w g j u) (.inr fun e => ?_), fun i x l hx hl => (h.inn i x l hx hl).far ((h.inn i x l hx hl).not hg) u, h.out, h.two⟩
  have := (World.ownsRow.lt h.row g e).1
  omega
theorem OwnC.far {w : World} {base : Nat} {c r : Value} {co : List (Int × Int)} {rs : List (List Int)} {vs : List Value} (h : OwnC w base c r co rs vs) {g j : Nat} (hg : g < base) (u : Value) : OwnC (w.setCell ⟨g, j, none⟩ u) base c r co rs vs :=
  ⟨h.oc.far (h.oc.not hg) u, h.or.far hg u, h.cr, h.ci⟩

abbrev Live3 (w : World) (b : Nat) (v0 v1 v2 : Value) : Prop :=
  (w.cell? ⟨b, 0, none⟩ = some v0 ∧ w.frozen? ⟨b, 0, none⟩ = false) ∧ (w.cell? ⟨b, 1, none⟩ = some v1 ∧ w.frozen? ⟨b, 1, none⟩ = false) ∧ (w.cell? ⟨b, 2, none⟩ = some v2 ∧ w.frozen? ⟨b, 2, none⟩ = false)
theorem live3_keep {w w' : World} {b : Nat} {v0 v1 v2 : Value} (k : Kp w w') (h : Live3 w b v0 v1 v2) : Live3 w' b v0 v1 v2 := ⟨k.liv h.1, k.liv h.2.1, k.liv h.2.2⟩

set_option maxRecDepth 100000 in
set_option maxHeartbeats 2000000 in
theorem toCombatTable_any (c r : Value) (d : Int) (co : List (Int × Int)) (rs : List (List Int)) (m n : Nat) (w : World) (h : CtAt w c r co rs) (hm : co.length = m) (hn : rs.length = n) :
    Calls Tryd.prog 7 #[cv c d r] w fun e w' => ∃ (A1 : Option Addr) (c1 g2 : Nat) (vs : List Value), e = .returned (cv (.slice A1 m c1) d (.slice (some ⟨g2, 0, none⟩) n n)) ∧ OwnC w' w.heap.size (.slice A1 m c1) (.slice (some ⟨g2, 0, none⟩) n n) co rs vs ∧ Kp w w' := by
  have HL := Lib.hid h
  have hb1 := h.bc
  have hb2 := h.br
  have HN := Lib.hid hn
  have HM := Lib.hid hm
  rw [hn] at hb2
  clear h hn hm
  go_enter Tryd.func7, Tryd.ntmps7
  go_wp2_with fail
  have k0 : Kp w (((w.alloc (.cells #[c, .int .i64 d, r] 25)).alloc (.cells #[.slice none 0 0, .int .i64 0, .slice none 0 0] 31)).alloc (.cells #[.slice none 0 0, .int .i64 0, .slice none 0 0] 31)) := (((Kp.refl w).alloc _).alloc _).alloc _
  refine (toOddsS_any _ co _ (HL.out.keep k0).rc hb1).mono ?_
  rintro e1 w1 ⟨c', rfl, o1, k1⟩
  obtain ⟨A1, c1, hc'⟩ := o1.slice
  rw [HM.out] at hc'
  subst hc'
  have a1 : w1.cell? ⟨w.heap.size, 1, none⟩ = some (.int .i64 d) := k1.cell (by simp [go_sem])
  have a2 : w1.cell? ⟨w.heap.size, 2, none⟩ = some r := k1.cell (by simp [go_sem])
  have L1 : Live3 w1 (w.heap.size + 1) (.slice none 0 0) (.int .i64 0) (.slice none 0 0) := live3_keep k1 ⟨by simp [go_sem], by simp [go_sem], by simp [go_sem]⟩
  have M1 : Live3 w1 (w.heap.size + 1 + 1) (.slice none 0 0) (.int .i64 0) (.slice none 0 0) := live3_keep k1 ⟨by simp [go_sem], by simp [go_sem], by simp [go_sem]⟩
  have K1 : Kp w w1 := k0.trans k1
  have eg : (((w.alloc (.cells #[c, .int .i64 d, r] 25)).alloc (.cells #[.slice none 0 0, .int .i64 0, .slice none 0 0] 31)).alloc (.cells #[.slice none 0 0, .int .i64 0, .slice none 0 0] 31)).heap.size = w.heap.size + 3 := by simp
  rw [eg] at o1
  have z1 : w.heap.size + 3 ≤ w1.heap.size := by have := k1.size; rw [eg] at this; exact this
  have O1 := Lib.hid o1
  clear k0 k1 o1 eg
  go_wp2_with fail
  have K1' : Kp w ((w1.setCell ⟨w.heap.size + 1 + 1, 0, none⟩ (.slice A1 m c1)).setCell ⟨w.heap.size + 1 + 1, 1, none⟩ (.int .i64 d)) := (K1.setCell (by simp <;> omega) _).setCell (by simp <;> omega) _
  refine (toIntSS_any _ rs n _ (HL.out.keep K1').rr HN.out hb2 HL.out.bl).mono ?_
  rintro e2 w2 ⟨vs, rfl, o2, k2⟩
  have L2 : Live3 w2 (w.heap.size + 1) (.slice none 0 0) (.int .i64 0) (.slice none 0 0) := live3_keep k2 ⟨by simp [go_sem, *], by simp [go_sem, *], by simp [go_sem, *]⟩
  have M2 : Live3 w2 (w.heap.size + 1 + 1) (.slice A1 m c1) (.int .i64 d) (.slice none 0 0) := live3_keep k2 ⟨by simp [go_sem, *], by simp [go_sem, *], by simp [go_sem, *]⟩
  have K2 : Kp w w2 := K1'.trans k2
  have nb := O1.out.not (g := w.heap.size + 1 + 1) (by omega)
  have O2 := Lib.hid (((O1.out.far nb (.slice A1 m c1) (j := 0)).far nb (.int .i64 d) (j := 1)).keep k2)
  have eg : ((w1.setCell ⟨w.heap.size + 1 + 1, 0, none⟩ (.slice A1 m c1)).setCell ⟨w.heap.size + 1 + 1, 1, none⟩ (.int .i64 d)).heap.size = w1.heap.size := by simp
  rw [eg] at o2 ⊢
  have CB : ∀ g, (Value.slice A1 m c1).ownBlock = some g → g < w1.heap.size := fun g e => (World.ownsRow.lt O1.out g e).2
  have OC : Hid (OwnC w2 (w.heap.size + 3) (.slice A1 m c1) (.slice (some ⟨w1.heap.size, 0, none⟩) n n) co rs vs) := Lib.hid ⟨O2.out, o2.base z1, fun g e e2 => by
      have h1 := CB g e
      have h2 : w1.heap.size = g := Option.some.inj e2
      omega, fun g e j x hx e2 => by
      have h1 := CB g e
      have hl : rs[j]? = some (rs[j]'(by have := lt_at hx; have := o2.len; omega)) := List.getElem?_eq_getElem _
      have h2 := (World.ownsRow.lt (o2.inn j x _ hx hl) g e2).1
      omega⟩
  generalize hg2 : w1.heap.size = G2 at *
  clear K1' k2 o2 a1 a2 L1 M1 K1 O1 O2 eg hg2 nb CB
  go_wp2_with fail
  refine bodyPost_ret (v := cv (.slice A1 m c1) d (.slice (some ⟨G2, 0, none⟩) n n)) (by simp [results, Tryd.results7, go_sem, *]) rfl ⟨_, _, _, vs, rfl, ?_, ?_⟩
  · exact ((((OC.out.far (by omega) _).far (by omega) _).far (by omega) _).far (by omega) _).base (by omega)
  · exact (((K2.setCell (by simp <;> omega) _).setCell (by simp <;> omega) _).setCell (by simp <;> omega) _).setCell (by simp <;> omega) _

set_option maxRecDepth 100000 in
set_option maxHeartbeats 1000000 in
theorem eqCombatTable_same (c r c' r' : Value) (d : Int) (co : List (Int × Int)) (rs : List (List Int)) (w : World) (h : CtAt w c r co rs) (h' : CtAt w c' r' co rs) :
    Calls Tryd.prog 9 #[cv c d r, cv c' d r'] w fun e w' => e = .returned (.bool true) ∧ Kp w w' := by
  have KA : Kp w ((w.alloc (.cells #[c, .int .i64 d, r] 31)).alloc (.cells #[c', .int .i64 d, r'] 31)) := ((Kp.refl w).alloc _).alloc _
  have H1 := Lib.hid (h.keep KA)
  have H2 := Lib.hid (h'.keep KA)
  have hb := h.bc
  have hb2 := h.br
  have e1 : (d != d) = false := by simp
  clear h h'
  go_enter Tryd.func9, Tryd.ntmps9
  go_wp2_with fail
  refine (eqOddsS_same _ _ co _ H1.out.rc H2.out.rc hb).mono ?_
  rintro x1 w1 ⟨rfl, k1⟩
  have p1 : w1.cell? ⟨w.heap.size, 1, none⟩ = some (.int .i64 d) := k1.cell (by simp [go_sem])
  have p2 : w1.cell? ⟨w.heap.size, 2, none⟩ = some r := k1.cell (by simp [go_sem])
  have q1 : w1.cell? ⟨w.heap.size + 1, 1, none⟩ = some (.int .i64 d) := k1.cell (by simp [go_sem])
  have q2 : w1.cell? ⟨w.heap.size + 1, 2, none⟩ = some r' := k1.cell (by simp [go_sem])
  have K1 : Kp w w1 := KA.trans k1
  have H1b := Lib.hid (H1.out.keep k1)
  have H2b := Lib.hid (H2.out.keep k1)
  clear k1 KA H1 H2
  go_wp2_with fail
  refine (eqIntSS_same _ _ rs _ H1b.out.rr H2b.out.rr hb2 H1b.out.bl).mono ?_
  rintro x2 w2 ⟨rfl, k2⟩
  have K2 : Kp w w2 := K1.trans k2
  clear k2 K1 p1 q1
  go_wp2_with fail
  go_ret
  exact ⟨rfl, K2⟩

theorem cellsCt : Tryd.prog.cellsOf 25 = 3 := by kernel_rfl
theorem cellsOd : Tryd.prog.cellsOf 61 = 2 := by kernel_rfl
theorem cellsIS : Tryd.prog.cellsOf 50 = 1 := by kernel_rfl
theorem oddFields : ∃ f0 f1 : Field, Tryd.prog.underlying 61 = some (.struct #[f0, f1]) ∧ f0.type = 3 ∧ f1.type = 3 ∧ f0.offset = 0 ∧ f1.offset = 1 :=
  ⟨_, _, Tryd.underlying61, rfl, rfl, rfl, rfl⟩
set_option maxRecDepth 100000 in
theorem rdO_of_trod {H : Type} {enc : TypeId × Value → H} {W : World} {v : Value} {n : Nat} {y : DataW H × List MemPlace}
    (hf : DataW.trod enc Tryd.prog W 0 (fun _ => true) true n 22 [v] = some y) : ∃ l, RdH W v l ∧ l.length ≤ 9223372036854775807 := by
  obtain ⟨A, n, c, l, rfl, hl, hm, hr⟩ := rd_structs (α := Int × Int) (fun g o x => W.cell? ⟨g, o, none⟩ = some (.int .i64 x.1) ∧ W.cell? ⟨g, o + 1, none⟩ = some (.int .i64 x.2)) cellsOd Tryd.underlying22 hf (fun a fu cs x hcl hat hx => by
    obtain ⟨k, hk⟩ := fields_of_trod Tryd.underlying61 (by kernel_rfl) rfl hcl hx
    obtain ⟨c0, y0, q0, h0⟩ := hk 0 _ rfl
    obtain ⟨c1, y1, q1, h1⟩ := hk 1 _ rfl
    obtain ⟨z0, e0, _, w0⟩ := DataW.trod_int Tryd.underlying3 h0
    obtain ⟨z1, e1, _, w1⟩ := DataW.trod_int Tryd.underlying3 h1
    simp only [List.cons.injEq, and_true] at e0 e1
    subst e0 e1
    have g0 := (hat 0 (by omega)).trans q0
    have g1 := (hat 1 (by omega)).trans q1
    obtain ⟨b, off, spot⟩ := a
    have hspot : spot = none := by
      have := World.cell?_spot g0
      simpa [Addr.add] using this
    subst hspot
    rw [add_none'] at g0 g1
    exact ⟨rfl, (z0, z1), g0, g1⟩)
  unfold maxLen at hm
  refine ⟨l, ⟨A, c, by rw [hl], fun h0 => ?_⟩, by omega⟩
  obtain ⟨g, off, e, hc⟩ := hr (by omega)
  exact ⟨g, off, e, fun i x hx => hc i x hx⟩

set_option maxRecDepth 100000 in
theorem rdII_of_trod {H : Type} {enc : TypeId × Value → H} {W : World} {v : Value} {n : Nat} {y : DataW H × List MemPlace}
    (hf : DataW.trod enc Tryd.prog W 0 (fun _ => true) true n 23 [v] = some y) : ∃ L, RdII W v L ∧ L.length ≤ 9223372036854775807 ∧ ∀ l ∈ L, l.length ≤ 9223372036854775807 := by
  obtain ⟨A, n, c, l, rfl, hl, hm, hr⟩ := rd_structs (α := Value × List Int) (fun g o x => W.cell? ⟨g, o, none⟩ = some x.1 ∧ RdI W x.1 x.2 ∧ x.2.length ≤ 9223372036854775807) cellsIS Tryd.underlying23 hf (fun a fu cs x hcl hat hx => by
    obtain ⟨c0, rfl⟩ : ∃ c0, cs = [c0] := by
      match cs, hcl with
      | [c0], _ => exact ⟨c0, rfl⟩
    obtain ⟨m, r1, r2, _⟩ := rdB_of_trod hx
    have g0 := (hat 0 (by omega))
    simp only [List.getElem?_cons_zero] at g0
    obtain ⟨b, off, spot⟩ := a
    have hspot : spot = none := by
      have := World.cell?_spot g0
      simpa [Addr.add] using this
    subst hspot
    rw [add_none'] at g0
    exact ⟨rfl, (c0, m), g0, r1, r2⟩)
  unfold maxLen at hm
  have mem : ∀ (i : Nat) (x : Value × List Int), l[i]? = some x → RdI W x.1 x.2 ∧ x.2.length ≤ 9223372036854775807 := fun i x hx => by
    obtain ⟨g, off, rfl, hc⟩ := hr (by have := (List.getElem?_eq_some_iff.1 hx).1; omega)
    exact (hc i x hx).2
  refine ⟨l.map (·.2), ⟨A, c, l.map (·.1), by rw [List.length_map, hl], by simp, fun h0 => ?_, fun i x m hx hm => ?_⟩, by rw [List.length_map]; omega, fun m hm => ?_⟩
  · obtain ⟨g, off, e, hc⟩ := hr (by rw [List.length_map] at h0; omega)
    refine ⟨g, off, e, fun i x hx => ?_⟩
    rw [List.getElem?_map] at hx
    obtain ⟨p, hp, rfl⟩ := Option.map_eq_some_iff.1 hx
    have := (hc i p hp).1
    rw [Nat.mul_one] at this
    exact this
  · rw [List.getElem?_map] at hx hm
    obtain ⟨p, hp, rfl⟩ := Option.map_eq_some_iff.1 hx
    rw [hp] at hm
    obtain rfl := Option.some.inj hm
    exact (mem i p hp).1
  · obtain ⟨p, hp, rfl⟩ := List.mem_map.1 hm
    obtain ⟨i, hi, rfl⟩ := List.mem_iff_getElem.1 hp
    exact (mem i _ (List.getElem?_eq_getElem hi)).2

theorem three {α : Type} {l : List α} (h : l.length = 3) {a b c : α} (h0 : l[0]? = some a) (h1 : l[1]? = some b) (h2 : l[2]? = some c) : l = [a, b, c] := by
  match l, h with
  | [x0, x1, x2], _ => simp_all

set_option maxRecDepth 100000 in
/-- An argument of type CombatTable: two lists and a number. -/
theorem open_table {H : Type} {enc : TypeId × Value → H} {W : World} {base : Nat} {v : Value} {d : DataW H} {p : List MemPlace}
    (hv : Value.okWide Tryd.prog W .any base 25 v) (h : DataW.Trod enc Tryd.prog W 0 (fun _ => true) true 25 v d p) :
    ∃ (c r : Value) (d : Int) (co : List (Int × Int)) (rs : List (List Int)), v = cv c d r ∧ CtIn W c r co rs ∧ isI64 d := by
  obtain ⟨cs, n, rfl, hl, hf⟩ := open_fields Tryd.underlying25 (by kernel_rfl) cellsCt rfl hv h
  obtain ⟨c0, y0, q0, h0⟩ := hf 0 _ rfl
  obtain ⟨c1, y1, q1, h1⟩ := hf 1 _ rfl
  obtain ⟨c2, y2, q2, h2⟩ := hf 2 _ rfl
  obtain rfl := three hl q0 q1 q2
  obtain ⟨co, r1, r2⟩ := rdO_of_trod h0
  obtain ⟨b, e1, rfl, wb⟩ := DataW.trod_int Tryd.underlying3 h1
  obtain ⟨rs, s1, s2, s3⟩ := rdII_of_trod h2
  simp only [List.cons.injEq, and_true] at e1
  subst e1
  exact ⟨c0, c2, b, co, rs, rfl, ⟨r1, s1, r2, s2, s3⟩, bounds_i64 wb⟩

end Go.Proofs.YtgeophllbmjjfaaDoor
