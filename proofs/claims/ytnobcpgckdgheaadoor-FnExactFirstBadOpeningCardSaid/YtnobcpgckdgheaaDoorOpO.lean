/-
  Slices of openings as lists of records: the laws' copy and comparison; arguments of that type.
-/
import Derived.Test.YtnobcpgckdgheaaDoorRdS
import Derived.Test.YtnobcpgckdgheaaDoorRowC
import Derived.Test.YtnobcpgckdgheaaDoorMarkN
import Derived.Test.YtnobcpgckdgheaaDoorSzP
import Derived.Test.YtnobcpgckdgheaaDoorMk
namespace Go.Proofs.YtnobcpgckdgheaaDoor
open Go.ChangeShapes Go.WideShapes Go.ChangeAt Go.RowKit Go.Joins Go.Deep

structure Opn where
  n : Int
  s : ByteArray
abbrev opx (n : Int) (s : ByteArray) : Value := .agg #[.int .i64 n, .string s]
def OpnAt (w : World) (g o : Nat) (x : Opn) : Prop := w.cell? ⟨g, o, none⟩ = some (.int .i64 x.n) ∧ w.cell? ⟨g, o + 1, none⟩ = some (.string x.s)
theorem OpnAt.keep {w w' : World} {g o : Nat} {x : Opn} (h : OpnAt w g o x) (k : Kp w w') : OpnAt w' g o x := ⟨k.cell h.1, k.cell h.2⟩
def OpnI (x : Opn) : Prop := isI64 x.n ∧ x.s.size ≤ 9223372036854775807
/-- The slice v reads as the list l. -/
def RdOp (w : World) (v : Value) (l : List Opn) : Prop :=
  ∃ A c, v = .slice A l.length c ∧ (0 < l.length → ∃ g off, A = some ⟨g, off, none⟩ ∧ ∀ i x, l[i]? = some x → OpnAt w g (off + i * 2) x)
theorem RdOp.keep {w w' : World} {v : Value} {l : List Opn} (h : RdOp w v l) (hk : Kp w w') : RdOp w' v l := by
  obtain ⟨A, c, rfl, h⟩ := h
  refine ⟨A, c, rfl, fun h0 => ?_⟩
  obtain ⟨g, off, rfl, hc⟩ := h h0
  exact ⟨g, off, rfl, fun i x hx => (hc i x hx).keep hk⟩
def cellsOp : List Opn → List Value
  | [] => []
  | x :: l => .int .i64 x.n :: .string x.s :: cellsOp l
theorem cellsOp_length : ∀ l, (cellsOp l).length = l.length * 2
  | [] => rfl
  | x :: l => by simp only [cellsOp, List.length_cons, cellsOp_length l]; omega
theorem cellsOp_append : ∀ l m, cellsOp (l ++ m) = cellsOp l ++ cellsOp m
  | [], _ => rfl
  | x :: l, m => by simp only [cellsOp, List.cons_append, cellsOp_append l m]
theorem cellsOp_at : ∀ (l : List Opn) (i : Nat) (x : Opn), l[i]? = some x → (cellsOp l)[i * 2]? = some (.int .i64 x.n) ∧ (cellsOp l)[i * 2 + 1]? = some (.string x.s)
  | [], _, _, h => by simp at h
  | y :: l, 0, x, h => by
    simp only [List.getElem?_cons_zero, Option.some.injEq] at h
    subst h
    exact ⟨rfl, rfl⟩
  | y :: l, i + 1, x, h => by
    have := cellsOp_at l i x (by simpa using h)
    have e1 : (i + 1) * 2 = i * 2 + 1 + 1 := by omega
    rw [e1]
    exact ⟨(by simpa [cellsOp] using this.1), (by simpa [cellsOp] using this.2)⟩

/-- The slice v owns the list l, in a block from base on. -/
def OwnOp (w : World) (base : Nat) (v : Value) (l : List Opn) : Prop := w.ownsRow base 33 2 v l.length (cellsOp l)
theorem OwnOp.rd {w : World} {base : Nat} {v : Value} {l : List Opn} (h : OwnOp w base v l) : RdOp w v l := by
  rcases h.2 with ⟨rfl, hn⟩ | ⟨g, cap, cur, rfl, hb, hg, hc, hm, hs, ht⟩
  · exact ⟨none, 0, by rw [hn], fun h0 => by omega⟩
  · refine ⟨_, _, rfl, fun _ => ⟨g, 0, rfl, fun i x hx => ?_⟩⟩
    have hi : i < l.length := (List.getElem?_eq_some_iff.1 hx).1
    have e := cellsOp_at l i x hx
    rw [Nat.zero_add]
    exact ⟨(World.ownsRow.cellAt h (i * 2) (by omega)).trans e.1, (World.ownsRow.cellAt h (i * 2 + 1) (by omega)).trans e.2⟩
theorem OwnOp.base {w : World} {base b : Nat} {v : Value} {l : List Opn} (h : OwnOp w base v l) (hb : b ≤ base) : OwnOp w b v l := ownsRow_base h hb
theorem OwnOp.keep {w w' : World} {base : Nat} {v : Value} {l : List Opn} (h : OwnOp w base v l) (hk : Kp w w') : OwnOp w' base v l := ownsRow_keep h hk
theorem OwnOp.nil (w : World) (base : Nat) : OwnOp w base (.slice none 0 0) [] := World.ownsRow_nil w base _ 2
theorem infoOpening : (Tryd.prog.info? 33).map (fun i => (i.zero, i.size, i.bytes)) = some (some (opx 0 ByteArray.empty), 2, 24) := by kernel_rfl
theorem OwnOp.slice {w : World} {base : Nat} {v : Value} {l : List Opn} (h : OwnOp w base v l) : ∃ A c, v = .slice A l.length c := by
  obtain ⟨A, c, rfl, _⟩ := h.rd
  exact ⟨A, c, rfl⟩
theorem OwnOp.far {w : World} {base : Nat} {v : Value} {l : List Opn} (h : OwnOp w base v l) {g j : Nat} (hne : v.ownBlock ≠ some g) (u : Value) : OwnOp (w.setCell ⟨g, j, none⟩ u) base v l :=
  World.ownsRow.kept h (grown_set w g j u) (.inr hne)
theorem OwnOp.not {w : World} {base : Nat} {v : Value} {l : List Opn} (h : OwnOp w base v l) {g : Nat} (hg : g < base) : v.ownBlock ≠ some g := fun e => by
  have := (World.ownsRow.lt h g e).1
  omega

theorem keep4u {w w1 : World} {p0 p1 p2 p3 : Addr} {v0 v1 v2 v3 : Value} (k : Kp w w1) (h : w.cell? p0 = some v0 ∧ w.cell? p1 = some v1 ∧ w.cell? p2 = some v2 ∧ w.cell? p3 = some v3) : w1.cell? p0 = some v0 ∧ w1.cell? p1 = some v1 ∧ w1.cell? p2 = some v2 ∧ w1.cell? p3 = some v3 :=
  ⟨k.cell h.1, k.cell h.2.1, k.cell h.2.2.1, k.cell h.2.2.2⟩

theorem eqOpening_same (n : Int) (s : ByteArray) (w : World) :
    Calls Tryd.prog 51 #[opx n s, opx n s] w fun e' w' => e' = .returned (.bool true) ∧ Kp w w' := by
  have e0 : (n != n) = false := by simp
  have e1 : (s.toList != s.toList) = false := by simp
  go_enter Tryd.func51, Tryd.ntmps51
  go_wp2
  go_ret
  exact ⟨rfl, ((Kp.refl _).alloc _).alloc _⟩

set_option maxRecDepth 100000 in
theorem toOpening_any (n : Int) (s : ByteArray) (w : World) :
    Calls Tryd.prog 15 #[opx n s] w fun e' w' => e' = .returned (opx n s) ∧ Kp w w' := by
  go_enter Tryd.func15, Tryd.ntmps15
  go_wp2
  exact bodyPost_ret (v := opx n s) (by simp [results, Tryd.results15, go_sem]) rfl ⟨rfl, (((Kp.refl _).alloc _).alloc _).alloc _⟩

theorem mkOpeningN (n : Nat) (hn : n ≤ 1048576) (w : World) :
    (Instr.makeSlice 48 (.int .i64 (n : Int)) (.int .i64 (n : Int))).run Tryd.prog w = .ok (.slice (some ⟨w.heap.size, 0, none⟩) n n) (w.alloc (.cells (madeCells (opx 0 ByteArray.empty).cells (n * 2)) 33)) := by
  obtain ⟨i, hi, hz, hs, hb⟩ := info_parts infoOpening
  have hr := run_make (P := Tryd.prog) w 48 33 i (opx 0 ByteArray.empty) Tryd.underlying48 hi hz .i64 .i64 (n : Int) (n : Int) (by omega) (Int.le_refl _) (by rw [hb]; omega) (by omega)
  rw [hs, Int.toNat_natCast] at hr
  exact hr

set_option maxRecDepth 100000 in
set_option maxHeartbeats 1000000 in
theorem toOpeningS_any (v : Value) (l : List Opn) (w : World) (h : RdOp w v l) (hl : l.length ≤ 1048576) :
    Calls Tryd.prog 24 #[v] w fun e w' => ∃ g, e = .returned (.slice (some ⟨g, 0, none⟩) l.length l.length) ∧ OwnOp w' w.heap.size (.slice (some ⟨g, 0, none⟩) l.length l.length) l ∧ Kp w w' := by
  obtain ⟨A, c, rfl, h⟩ := h
  have HA := Lib.hid h
  clear h
  obtain ⟨n, hn⟩ : ∃ n, l.length = n := ⟨_, rfl⟩
  have HN := Lib.hid hn
  rw [hn] at hl ⊢
  rw [hn] at HA
  clear hn
  have hmk := fun w => mkOpeningN n hl w
  have own0 : (w.alloc (.cells (madeCells #[.int .i64 0, .string ByteArray.empty] (n * 2)) 33)).ownsRow w.heap.size 33 2 (.slice (some ⟨w.heap.size, 0, none⟩) n n) n (madeCells #[.int .i64 0, .string ByteArray.empty] (n * 2)).toList :=
    World.ownsRow_lit w _ n (Nat.le_refl _) (by simp only [maxLen]; omega) (by rw [size_madeCells])
  go_enter Tryd.func24, Tryd.ntmps24
  go_wp2_with fail
  go_loopw [4] (fun i wr => ∃ k : Nat, k ≤ n ∧ i = .int .i64 k ∧ (∃ ys, wr.ownsRow w.heap.size 33 2 (.slice (some ⟨w.heap.size, 0, none⟩) n n) n ys ∧ ∀ j x, j < k → l[j]? = some x → ys[j * 2]? = some (.int .i64 x.n) ∧ ys[j * 2 + 1]? = some (.string x.s)) ∧ Kp w wr) (fun i _ => n - (intOf i).toNat)
  case atStart => exact ⟨0, by omega, rfl, ⟨_, own0, fun j x hj => absurd hj (by omega)⟩, (Kp.refl _).alloc _⟩
  case round =>
    clear own0 hmk
    obtain ⟨k, hk, rfl, ⟨ys, ho, hys⟩, kr⟩ := hrel
    have HY := Lib.hid hys
    clear hys
    by_cases hlt : k < n
    · have hlt' : (k : Int) < n := by omega
      obtain ⟨g, off, rfl, hc⟩ := HA.out (by omega)
      obtain ⟨x, hx⟩ : ∃ x, l[k]? = some x := ⟨l[k]'(by have := HN.out; omega), List.getElem?_eq_getElem _⟩
      obtain ⟨a0, a1⟩ := (hc k x hx).keep kr
      have HX := Lib.hid hx
      clear hc hx
      obtain ⟨p0, p1⟩ := x
      simp only at a0 a1
      have HO := Lib.hid ho
      clear ho
      go_wp2_with fail
      refine (toOpening_any _ _ _).mono ?_
      rintro e w1 ⟨rfl, k1⟩
      have ho := ownsRow_keep HO.out k1
      have hlen : ys.length = n * 2 := ho.1
      obtain ⟨u0, hu0⟩ : ∃ u, w1.cell? ⟨w.heap.size, k * 2, none⟩ = some u := ⟨_, (ho.cellAt (k * 2) (by omega)).trans (List.getElem?_eq_getElem (by omega))⟩
      have f0 := ho.frozenAt (k * 2)
      obtain ⟨u1, hu1⟩ : ∃ u, w1.cell? ⟨w.heap.size, k * 2 + 1, none⟩ = some u := ⟨_, (ho.cellAt (k * 2 + 1) (by omega)).trans (List.getElem?_eq_getElem (by omega))⟩
      have f1 := ho.frozenAt (k * 2 + 1)
      have HLen := Lib.hid hlen
      clear hlen
      go_wp2_with fail
      go_roundw
      case rel =>
        obtain ⟨o1, g1⟩ := ho.stored (k * 2) (.int .i64 p0)
        obtain ⟨o2, g2⟩ := o1.stored (k * 2 + 1) (.string p1)
        refine ⟨k + 1, by omega, by go_num, ⟨_, o2, fun j y hj hy => ?_⟩, (((kr.trans k1).setCell (by simp) _).setCell (by simp) _)⟩
        have hlen := HLen.out
        by_cases e : k = j
        · subst e
          rw [HX.out] at hy
          obtain rfl := Option.some.inj hy
          refine ⟨?_, ?_⟩
          · rw [List.getElem?_set, if_neg (by omega), List.getElem?_set, if_pos rfl, if_pos (by first | omega | (simp only [List.length_set]; omega))]
          · rw [List.getElem?_set, if_pos rfl, if_pos (by first | omega | (simp only [List.length_set]; omega))]
        · have := HY.out j y (by omega) hy
          refine ⟨?_, ?_⟩
          · rw [List.getElem?_set, if_neg (by omega), List.getElem?_set, if_neg (by omega)]; exact this.1
          · rw [List.getElem?_set, if_neg (by omega), List.getElem?_set, if_neg (by omega)]; exact this.2
      case measure => simp [intOf]; omega
    · obtain rfl : k = n := by omega
      go_wp2_with fail
      go_ret
      have e : ys = cellsOp l := by
        apply List.ext_getElem?
        intro j
        have hl1 : ys.length = k * 2 := ho.1
        have hl2 := HN.out
        have hl3 := cellsOp_length l
        by_cases hj : j < k * 2
        · have hi : j / 2 < l.length := by omega
          have hx : l[j / 2]? = some (l[j / 2]'hi) := List.getElem?_eq_getElem _
          have h1 := HY.out (j / 2) _ (by omega) hx
          have h2 := cellsOp_at l (j / 2) _ hx
          have hm : j % 2 = 0 ∨ j % 2 = 1 := by omega
          rcases hm with hm | hm
          · rw [show j = j / 2 * 2 from by omega, h1.1, h2.1]
          · rw [show j = j / 2 * 2 + 1 from by omega, h1.2, h2.2]
        · rw [List.getElem?_eq_none (by omega), List.getElem?_eq_none (by omega)]
      refine ⟨_, rfl, ?_, kr⟩
      unfold OwnOp
      rw [HN.out, ← e]
      exact ho

set_option maxRecDepth 100000 in
set_option maxHeartbeats 1000000 in
theorem eqOpeningS_same (va vb : Value) (l : List Opn) (w : World) (ha : RdOp w va l) (hb : RdOp w vb l) (hl : l.length ≤ 1048576) :
    Calls Tryd.prog 27 #[va, vb] w fun e w' => e = .returned (.bool true) ∧ Kp w w' := by
  obtain ⟨A, ca, rfl, ha⟩ := ha
  obtain ⟨B, cb, rfl, hb⟩ := hb
  have HA := Lib.hid ha
  have HB := Lib.hid hb
  clear ha hb
  generalize hn : l.length = n at *
  have HN := Lib.hid hn
  clear hn
  go_enter Tryd.func27, Tryd.ntmps27
  go_wp2_with fail
  go_loopw [5] (fun i wr => ∃ k : Nat, k ≤ n ∧ i = .int .i64 k ∧ Kp w wr) (fun i _ => n - (intOf i).toNat)
  case atStart => exact ⟨0, by omega, rfl, Kp.refl _⟩
  case round =>
    obtain ⟨k, hk, rfl, kr⟩ := hrel
    by_cases hlt : k < n
    · obtain ⟨ga, oa, rfl, ca'⟩ := HA.out (by omega)
      obtain ⟨gb, ob, rfl, cb'⟩ := HB.out (by omega)
      obtain ⟨x, hx⟩ : ∃ x, l[k]? = some x := ⟨l[k]'(by have := HN.out; omega), List.getElem?_eq_getElem _⟩
      have a0 := (ca' k x hx).keep kr
      have b0 := (cb' k x hx).keep kr
      clear ca' cb' hx
      obtain ⟨p0, p1⟩ := x
      unfold OpnAt at a0 b0
      simp only at a0 b0
      have hlt' : (k : Int) < n := by omega
      have s0 := And.intro a0 b0
      obtain ⟨a0, a1⟩ := a0
      obtain ⟨b0, b1⟩ := b0
      go_wp2_with fail
      go_region_held3 (fun w' => w'.cell? ⟨ga, oa + k * 2, none⟩ = some (.int .i64 p0) ∧ w'.cell? ⟨ga, oa + k * 2 + 1, none⟩ = some (.string p1) ∧ w'.cell? ⟨gb, ob + k * 2, none⟩ = some (.int .i64 p0) ∧ w'.cell? ⟨gb, ob + k * 2 + 1, none⟩ = some (.string p1)) (first | assumption | exact ⟨a0, a1, b0, b1⟩ | go_keep)
        (first | (go_at_call 51; refine (eqOpening_same _ _ _).mono ?_; rintro e w1 ⟨rfl, k1⟩; have s1 := keep4u k1 (by assumption)))
      all_goals
        go_wp2_with fail
        go_roundw
        case rel => exact ⟨k + 1, by omega, by go_num, kr.drew.trans k1⟩
        case measure => simp [intOf]; omega
    · obtain rfl : k = n := by omega
      go_wp2_with fail
      go_ret
      exact ⟨rfl, kr⟩

theorem cellsOpening : Tryd.prog.cellsOf 29 = 2 := by kernel_rfl
set_option maxRecDepth 100000 in
theorem rdOp_of_trod {H : Type} {enc : TypeId × Value → H} {W : World} {v : Value} {m : Nat} {y : DataW H × List MemPlace}
    (hf : DataW.trod enc Tryd.prog W 0 (fun _ => true) true m 41 [v] = some y) : ∃ l, RdOp W v l ∧ l.length ≤ 9223372036854775807 ∧ ∀ x ∈ l, OpnI x := by
  obtain ⟨A, n, c, l, rfl, hl, hm, hr⟩ := rd_structs (α := Opn) (fun g o x => OpnAt W g o x ∧ OpnI x) cellsOpening Tryd.underlying41 hf (fun a fu cs x hcl hat hx => by
    obtain ⟨k, hk⟩ := fields_of_trod Tryd.underlying29 (by kernel_rfl) rfl hcl hx
    obtain ⟨c0, y0, q0, h0⟩ := hk 0 _ rfl
    obtain ⟨c1, y1, q1, h1⟩ := hk 1 _ rfl
    obtain ⟨z0, e0, _, w0⟩ := DataW.trod_int Tryd.underlying3 h0
    obtain ⟨z1, e1, _, w1⟩ := DataW.trod_string Tryd.underlying9 h1
    unfold maxLen at w1
    simp only [List.cons.injEq, and_true] at e0 e1
    subst e0 e1
    have g0 := (hat 0 (by omega)).trans q0
    have g1 := (hat 1 (by omega)).trans q1
    obtain ⟨b, off, spot⟩ := a
    have hspot : spot = none := by
      have := World.cell?_spot g0
      simpa [Addr.add] using this
    subst hspot
    rw [add_none'] at g0 g1
    exact ⟨rfl, ⟨z0, z1⟩, ⟨g0, g1⟩, bounds_i64 w0, (by simp only; omega)⟩)
  unfold maxLen at hm
  refine ⟨l, ⟨A, c, by rw [hl], fun h0 => ?_⟩, by omega, fun x hx => ?_⟩
  · obtain ⟨g, off, e, hc⟩ := hr (by omega)
    exact ⟨g, off, e, fun i x hx => (hc i x hx).1⟩
  · obtain ⟨i, hi, rfl⟩ := List.mem_iff_getElem.1 hx
    obtain ⟨g, off, e, hc⟩ := hr (by omega)
    exact (hc i _ (List.getElem?_eq_getElem hi)).2

theorem openOpening_list {l : List Value} (hl : l.length = 2) {c0 : Value} {c1 : Value} (q0 : l[0]? = some c0) (q1 : l[1]? = some c1) : l = [c0, c1] := by
  match l, hl with
  | [x0, x1], _ =>
    simp at q0 q1
    subst q0 q1
    rfl
set_option maxRecDepth 100000 in
/-- An argument that is one such struct. -/
theorem openOpening {H : Type} {enc : TypeId × Value → H} {W : World} {base : Nat} {v : Value} {d : DataW H} {p : List MemPlace}
    (hv : Value.okWide Tryd.prog W .any base 29 v) (h : DataW.Trod enc Tryd.prog W 0 (fun _ => true) true 29 v d p) :
    ∃ x : Opn, v = opx x.n x.s ∧ OpnI x := by
  obtain ⟨cs, n, rfl, hl, hk⟩ := open_fields Tryd.underlying29 (by kernel_rfl) cellsOpening rfl hv h
  obtain ⟨c0, y0, q0, h0⟩ := hk 0 _ rfl
  obtain ⟨c1, y1, q1, h1⟩ := hk 1 _ rfl
  obtain rfl := openOpening_list hl q0 q1
  obtain ⟨z0, e0, _, w0⟩ := DataW.trod_int Tryd.underlying3 h0
  obtain ⟨z1, e1, _, w1⟩ := DataW.trod_string Tryd.underlying9 h1
  unfold maxLen at w1
  simp only [List.cons.injEq, and_true] at e0 e1
  subst e0 e1
  exact ⟨⟨z0, z1⟩, rfl, bounds_i64 w0, (by simp only; omega)⟩

end Go.Proofs.YtnobcpgckdgheaaDoor
