/-
  Slices of units as lists of records: the laws' size, copy, comparison, marking and look; an argument of that type.
-/
import Derived.Test.YtiaahpcfciomlaaGreatDoorQc
import Derived.Test.YtiaahpcfciomlaaGreatDoorQd
namespace Go.Proofs.YtiaahpcfciomlaaGreatDoor
open Go.ChangeShapes Go.WideShapes Go.ChangeAt Go.RowKit Go.Joins Go.Deep

structure Uni where
  s : Int
  k : Int
  a : Int
  t : Int
abbrev ux (s k a t : Int) : Value := .agg #[.int .i64 s, .int .i64 k, .int .i64 a, .int .i64 t]
def UniAt (w : World) (g o : Nat) (x : Uni) : Prop := w.cell? ⟨g, o, none⟩ = some (.int .i64 x.s) ∧ w.cell? ⟨g, o + 1, none⟩ = some (.int .i64 x.k) ∧ w.cell? ⟨g, o + 2, none⟩ = some (.int .i64 x.a) ∧ w.cell? ⟨g, o + 3, none⟩ = some (.int .i64 x.t)
theorem UniAt.keep {w w' : World} {g o : Nat} {x : Uni} (h : UniAt w g o x) (k : Kp w w') : UniAt w' g o x := ⟨k.cell h.1, k.cell h.2.1, k.cell h.2.2.1, k.cell h.2.2.2⟩
def UniI (x : Uni) : Prop := isI64 x.s ∧ isI64 x.k ∧ isI64 x.a ∧ isI64 x.t
/-- The slice v reads as the list l. -/
def RdU (w : World) (v : Value) (l : List Uni) : Prop :=
  ∃ A c, v = .slice A l.length c ∧ (0 < l.length → ∃ g off, A = some ⟨g, off, none⟩ ∧ ∀ i x, l[i]? = some x → UniAt w g (off + i * 4) x)
theorem RdU.keep {w w' : World} {v : Value} {l : List Uni} (h : RdU w v l) (hk : Kp w w') : RdU w' v l := by
  obtain ⟨A, c, rfl, h⟩ := h
  refine ⟨A, c, rfl, fun h0 => ?_⟩
  obtain ⟨g, off, rfl, hc⟩ := h h0
  exact ⟨g, off, rfl, fun i x hx => (hc i x hx).keep hk⟩
def cellsU : List Uni → List Value
  | [] => []
  | x :: l => .int .i64 x.s :: .int .i64 x.k :: .int .i64 x.a :: .int .i64 x.t :: cellsU l
theorem cellsU_length : ∀ l, (cellsU l).length = l.length * 4
  | [] => rfl
  | x :: l => by simp only [cellsU, List.length_cons, cellsU_length l]; omega
theorem cellsU_append : ∀ l m, cellsU (l ++ m) = cellsU l ++ cellsU m
  | [], _ => rfl
  | x :: l, m => by simp only [cellsU, List.cons_append, cellsU_append l m]
theorem cellsU_at : ∀ (l : List Uni) (i : Nat) (x : Uni), l[i]? = some x → (cellsU l)[i * 4]? = some (.int .i64 x.s) ∧ (cellsU l)[i * 4 + 1]? = some (.int .i64 x.k) ∧ (cellsU l)[i * 4 + 2]? = some (.int .i64 x.a) ∧ (cellsU l)[i * 4 + 3]? = some (.int .i64 x.t)
  | [], _, _, h => by simp at h
  | y :: l, 0, x, h => by
    simp only [List.getElem?_cons_zero, Option.some.injEq] at h
    subst h
    exact ⟨rfl, rfl, rfl, rfl⟩
  | y :: l, i + 1, x, h => by
    have := cellsU_at l i x (by simpa using h)
    have e1 : (i + 1) * 4 = i * 4 + 1 + 1 + 1 + 1 := by omega
    rw [e1]
    exact ⟨(by simpa [cellsU] using this.1), (by simpa [cellsU] using this.2.1), (by simpa [cellsU] using this.2.2.1), (by simpa [cellsU] using this.2.2.2)⟩

/-- The slice v owns the list l, in a block from base on. -/
def OwnU (w : World) (base : Nat) (v : Value) (l : List Uni) : Prop := w.ownsRow base 67 4 v l.length (cellsU l)
theorem OwnU.rd {w : World} {base : Nat} {v : Value} {l : List Uni} (h : OwnU w base v l) : RdU w v l := by
  rcases h.2 with ⟨rfl, hn⟩ | ⟨g, cap, cur, rfl, hb, hg, hc, hm, hs, ht⟩
  · exact ⟨none, 0, by rw [hn], fun h0 => by omega⟩
  · refine ⟨_, _, rfl, fun _ => ⟨g, 0, rfl, fun i x hx => ?_⟩⟩
    have hi : i < l.length := (List.getElem?_eq_some_iff.1 hx).1
    have e := cellsU_at l i x hx
    rw [Nat.zero_add]
    exact ⟨(World.ownsRow.cellAt h (i * 4) (by omega)).trans e.1, (World.ownsRow.cellAt h (i * 4 + 1) (by omega)).trans e.2.1, (World.ownsRow.cellAt h (i * 4 + 2) (by omega)).trans e.2.2.1, (World.ownsRow.cellAt h (i * 4 + 3) (by omega)).trans e.2.2.2⟩
theorem OwnU.base {w : World} {base b : Nat} {v : Value} {l : List Uni} (h : OwnU w base v l) (hb : b ≤ base) : OwnU w b v l := ownsRow_base h hb
theorem OwnU.keep {w w' : World} {base : Nat} {v : Value} {l : List Uni} (h : OwnU w base v l) (hk : Kp w w') : OwnU w' base v l := ownsRow_keep h hk
theorem OwnU.nil (w : World) (base : Nat) : OwnU w base (.slice none 0 0) [] := World.ownsRow_nil w base _ 4
theorem infoUnit : (Tryz.prog.info? 67).map (fun i => (i.zero, i.size, i.bytes)) = some (some (ux 0 0 0 0), 4, 32) := by kernel_rfl
theorem OwnU.slice {w : World} {base : Nat} {v : Value} {l : List Uni} (h : OwnU w base v l) : ∃ A c, v = .slice A l.length c := by
  obtain ⟨A, c, rfl, _⟩ := h.rd
  exact ⟨A, c, rfl⟩
theorem OwnU.far {w : World} {base : Nat} {v : Value} {l : List Uni} (h : OwnU w base v l) {g j : Nat} (hne : v.ownBlock ≠ some g) (u : Value) : OwnU (w.setCell ⟨g, j, none⟩ u) base v l :=
  World.ownsRow.kept h (grown_set w g j u) (.inr hne)
theorem OwnU.not {w : World} {base : Nat} {v : Value} {l : List Uni} (h : OwnU w base v l) {g : Nat} (hg : g < base) : v.ownBlock ≠ some g := fun e => by
  have := (World.ownsRow.lt h g e).1
  omega

theorem keep8u {w w1 : World} {p0 p1 p2 p3 p4 p5 p6 p7 : Addr} {v0 v1 v2 v3 v4 v5 v6 v7 : Value} (k : Kp w w1) (h : w.cell? p0 = some v0 ∧ w.cell? p1 = some v1 ∧ w.cell? p2 = some v2 ∧ w.cell? p3 = some v3 ∧ w.cell? p4 = some v4 ∧ w.cell? p5 = some v5 ∧ w.cell? p6 = some v6 ∧ w.cell? p7 = some v7) : w1.cell? p0 = some v0 ∧ w1.cell? p1 = some v1 ∧ w1.cell? p2 = some v2 ∧ w1.cell? p3 = some v3 ∧ w1.cell? p4 = some v4 ∧ w1.cell? p5 = some v5 ∧ w1.cell? p6 = some v6 ∧ w1.cell? p7 = some v7 :=
  ⟨k.cell h.1, k.cell h.2.1, k.cell h.2.2.1, k.cell h.2.2.2.1, k.cell h.2.2.2.2.1, k.cell h.2.2.2.2.2.1, k.cell h.2.2.2.2.2.2.1, k.cell h.2.2.2.2.2.2.2⟩

theorem eqUnit_same (s k a t : Int) (w : World) :
    Calls Tryz.prog 71 #[ux s k a t, ux s k a t] w fun e' w' => e' = .returned (.bool true) ∧ Kp w w' := by
  have e0 : (s != s) = false := by simp
  have e1 : (k != k) = false := by simp
  have e2 : (a != a) = false := by simp
  have e3 : (t != t) = false := by simp
  go_enter Tryz.func71, Tryz.ntmps71
  go_wp2
  go_ret
  exact ⟨rfl, ((Kp.refl _).alloc _).alloc _⟩

set_option maxRecDepth 100000 in
theorem toUnit_any (s k a t : Int) (w : World) :
    Calls Tryz.prog 66 #[ux s k a t] w fun e' w' => e' = .returned (ux s k a t) ∧ Kp w w' := by
  go_enter Tryz.func66, Tryz.ntmps66
  go_wp2
  exact bodyPost_ret (v := ux s k a t) (by simp [results, Tryz.results66, go_sem]) rfl ⟨rfl, (((Kp.refl _).alloc _).alloc _).alloc _⟩

theorem szUnitS_yes (A : Option Addr) (n c : Nat) (left : Int) (w : World) (h : (n : Int) ≤ left) (h0 : 0 ≤ left) (h1 : left ≤ 1048576) :
    Calls Tryz.prog 32 #[.slice A n c, .int .i64 left] w fun e w' => e = .returned (.int .i64 (left - n)) ∧ w = w' := by
  go_enter Tryz.func32, Tryz.ntmps32
  go_wp2
  go_ret
  exact ⟨rfl, rfl⟩
theorem szUnitS_no (A : Option Addr) (n c : Nat) (left : Int) (w : World) (h : left < n) (h0 : 0 ≤ left) (h1 : left ≤ 1048576) (hn : n ≤ 9223372036854775807) :
    Calls Tryz.prog 32 #[.slice A n c, .int .i64 left] w fun e w' => e = .returned (.int .i64 (-1)) ∧ w = w' := by
  go_enter Tryz.func32, Tryz.ntmps32
  go_wp2
  go_ret
  exact ⟨rfl, rfl⟩

theorem mkUnitN (n : Nat) (hn : n ≤ 1048576) (w : World) :
    (Instr.makeSlice 46 (.int .i64 (n : Int)) (.int .i64 (n : Int))).run Tryz.prog w = .ok (.slice (some ⟨w.heap.size, 0, none⟩) n n) (w.alloc (.cells (madeCells (ux 0 0 0 0).cells (n * 4)) 67)) := by
  obtain ⟨i, hi, hz, hs, hb⟩ := info_parts infoUnit
  have hr := run_make (P := Tryz.prog) w 46 67 i (ux 0 0 0 0) Tryz.underlying46 hi hz .i64 .i64 (n : Int) (n : Int) (by omega) (Int.le_refl _) (by rw [hb]; omega) (by omega)
  rw [hs, Int.toNat_natCast] at hr
  exact hr

set_option maxRecDepth 100000 in
set_option maxHeartbeats 1000000 in
theorem toUnitS_any (v : Value) (l : List Uni) (w : World) (h : RdU w v l) (hl : l.length ≤ 1048576) :
    Calls Tryz.prog 36 #[v] w fun e w' => ∃ g, e = .returned (.slice (some ⟨g, 0, none⟩) l.length l.length) ∧ OwnU w' w.heap.size (.slice (some ⟨g, 0, none⟩) l.length l.length) l ∧ Kp w w' := by
  obtain ⟨A, c, rfl, h⟩ := h
  have HA := Lib.hid h
  clear h
  obtain ⟨n, hn⟩ : ∃ n, l.length = n := ⟨_, rfl⟩
  have HN := Lib.hid hn
  rw [hn] at hl ⊢
  rw [hn] at HA
  clear hn
  have hmk := fun w => mkUnitN n hl w
  have own0 : (w.alloc (.cells (madeCells #[.int .i64 0, .int .i64 0, .int .i64 0, .int .i64 0] (n * 4)) 67)).ownsRow w.heap.size 67 4 (.slice (some ⟨w.heap.size, 0, none⟩) n n) n (madeCells #[.int .i64 0, .int .i64 0, .int .i64 0, .int .i64 0] (n * 4)).toList :=
    World.ownsRow_lit w _ n (Nat.le_refl _) (by simp only [maxLen]; omega) (by rw [size_madeCells])
  go_enter Tryz.func36, Tryz.ntmps36
  go_wp2_with fail
  go_loopw [4] (fun i wr => ∃ k : Nat, k ≤ n ∧ i = .int .i64 k ∧ (∃ ys, wr.ownsRow w.heap.size 67 4 (.slice (some ⟨w.heap.size, 0, none⟩) n n) n ys ∧ ∀ j x, j < k → l[j]? = some x → ys[j * 4]? = some (.int .i64 x.s) ∧ ys[j * 4 + 1]? = some (.int .i64 x.k) ∧ ys[j * 4 + 2]? = some (.int .i64 x.a) ∧ ys[j * 4 + 3]? = some (.int .i64 x.t)) ∧ Kp w wr) (fun i _ => n - (intOf i).toNat)
  case atStart => exact ⟨0, by omega, rfl, ⟨_, own0, fun j x hj => absurd hj (by omega)⟩, (Kp.refl _).alloc _⟩
  case round =>
    clear own0 hmk
    obtain ⟨k, hk, rfl, ⟨ys, ho, hys⟩, kr⟩ := hrel
    have HY := Lib.hid hys
    clear hys
    by_cases hlt : k < n
    · have hlt' : (k : Int) < n := by omega
      obtain ⟨g, off, rfl, hc⟩ := HA.out (by omega)
      obtain ⟨x, hx⟩ : ∃ x, l[k]? = some x := ⟨l[k]'(by have := HN.out; omega), List.getElem?_eq_getElem _⟩
      obtain ⟨a0, a1, a2, a3⟩ := (hc k x hx).keep kr
      have HX := Lib.hid hx
      clear hc hx
      obtain ⟨p0, p1, p2, p3⟩ := x
      simp only at a0 a1 a2 a3
      have HO := Lib.hid ho
      clear ho
      go_wp2_with fail
      refine (toUnit_any _ _ _ _ _).mono ?_
      rintro e w1 ⟨rfl, k1⟩
      have ho := ownsRow_keep HO.out k1
      have hlen : ys.length = n * 4 := ho.1
      obtain ⟨u0, hu0⟩ : ∃ u, w1.cell? ⟨w.heap.size, k * 4, none⟩ = some u := ⟨_, (ho.cellAt (k * 4) (by omega)).trans (List.getElem?_eq_getElem (by omega))⟩
      have f0 := ho.frozenAt (k * 4)
      obtain ⟨u1, hu1⟩ : ∃ u, w1.cell? ⟨w.heap.size, k * 4 + 1, none⟩ = some u := ⟨_, (ho.cellAt (k * 4 + 1) (by omega)).trans (List.getElem?_eq_getElem (by omega))⟩
      have f1 := ho.frozenAt (k * 4 + 1)
      obtain ⟨u2, hu2⟩ : ∃ u, w1.cell? ⟨w.heap.size, k * 4 + 2, none⟩ = some u := ⟨_, (ho.cellAt (k * 4 + 2) (by omega)).trans (List.getElem?_eq_getElem (by omega))⟩
      have f2 := ho.frozenAt (k * 4 + 2)
      obtain ⟨u3, hu3⟩ : ∃ u, w1.cell? ⟨w.heap.size, k * 4 + 3, none⟩ = some u := ⟨_, (ho.cellAt (k * 4 + 3) (by omega)).trans (List.getElem?_eq_getElem (by omega))⟩
      have f3 := ho.frozenAt (k * 4 + 3)
      have HLen := Lib.hid hlen
      clear hlen
      go_wp2_with fail
      go_roundw
      case rel =>
        obtain ⟨o1, g1⟩ := ho.stored (k * 4) (.int .i64 p0)
        obtain ⟨o2, g2⟩ := o1.stored (k * 4 + 1) (.int .i64 p1)
        obtain ⟨o3, g3⟩ := o2.stored (k * 4 + 2) (.int .i64 p2)
        obtain ⟨o4, g4⟩ := o3.stored (k * 4 + 3) (.int .i64 p3)
        refine ⟨k + 1, by omega, by go_num, ⟨_, o4, fun j y hj hy => ?_⟩, (((((kr.trans k1).setCell (by simp) _).setCell (by simp) _).setCell (by simp) _).setCell (by simp) _)⟩
        have hlen := HLen.out
        by_cases e : k = j
        · subst e
          rw [HX.out] at hy
          obtain rfl := Option.some.inj hy
          refine ⟨?_, ?_, ?_, ?_⟩
          · rw [List.getElem?_set, if_neg (by omega), List.getElem?_set, if_neg (by omega), List.getElem?_set, if_neg (by omega), List.getElem?_set, if_pos rfl, if_pos (by first | omega | (simp only [List.length_set]; omega))]
          · rw [List.getElem?_set, if_neg (by omega), List.getElem?_set, if_neg (by omega), List.getElem?_set, if_pos rfl, if_pos (by first | omega | (simp only [List.length_set]; omega))]
          · rw [List.getElem?_set, if_neg (by omega), List.getElem?_set, if_pos rfl, if_pos (by first | omega | (simp only [List.length_set]; omega))]
          · rw [List.getElem?_set, if_pos rfl, if_pos (by first | omega | (simp only [List.length_set]; omega))]
        · have := HY.out j y (by omega) hy
          refine ⟨?_, ?_, ?_, ?_⟩
          · rw [List.getElem?_set, if_neg (by omega), List.getElem?_set, if_neg (by omega), List.getElem?_set, if_neg (by omega), List.getElem?_set, if_neg (by omega)]; exact this.1
          · rw [List.getElem?_set, if_neg (by omega), List.getElem?_set, if_neg (by omega), List.getElem?_set, if_neg (by omega), List.getElem?_set, if_neg (by omega)]; exact this.2.1
          · rw [List.getElem?_set, if_neg (by omega), List.getElem?_set, if_neg (by omega), List.getElem?_set, if_neg (by omega), List.getElem?_set, if_neg (by omega)]; exact this.2.2.1
          · rw [List.getElem?_set, if_neg (by omega), List.getElem?_set, if_neg (by omega), List.getElem?_set, if_neg (by omega), List.getElem?_set, if_neg (by omega)]; exact this.2.2.2
      case measure => simp [intOf]; omega
    · obtain rfl : k = n := by omega
      go_wp2_with fail
      go_ret
      have e : ys = cellsU l := by
        apply List.ext_getElem?
        intro j
        have hl1 : ys.length = k * 4 := ho.1
        have hl2 := HN.out
        have hl3 := cellsU_length l
        by_cases hj : j < k * 4
        · have hi : j / 4 < l.length := by omega
          have hx : l[j / 4]? = some (l[j / 4]'hi) := List.getElem?_eq_getElem _
          have h1 := HY.out (j / 4) _ (by omega) hx
          have h2 := cellsU_at l (j / 4) _ hx
          have hm : j % 4 = 0 ∨ j % 4 = 1 ∨ j % 4 = 2 ∨ j % 4 = 3 := by omega
          rcases hm with hm | hm | hm | hm
          · rw [show j = j / 4 * 4 from by omega, h1.1, h2.1]
          · rw [show j = j / 4 * 4 + 1 from by omega, h1.2.1, h2.2.1]
          · rw [show j = j / 4 * 4 + 2 from by omega, h1.2.2.1, h2.2.2.1]
          · rw [show j = j / 4 * 4 + 3 from by omega, h1.2.2.2, h2.2.2.2]
        · rw [List.getElem?_eq_none (by omega), List.getElem?_eq_none (by omega)]
      refine ⟨_, rfl, ?_, kr⟩
      unfold OwnU
      rw [HN.out, ← e]
      exact ho

set_option maxRecDepth 100000 in
set_option maxHeartbeats 1000000 in
theorem eqUnitS_same (va vb : Value) (l : List Uni) (w : World) (ha : RdU w va l) (hb : RdU w vb l) (hl : l.length ≤ 1048576) :
    Calls Tryz.prog 41 #[va, vb] w fun e w' => e = .returned (.bool true) ∧ Kp w w' := by
  obtain ⟨A, ca, rfl, ha⟩ := ha
  obtain ⟨B, cb, rfl, hb⟩ := hb
  have HA := Lib.hid ha
  have HB := Lib.hid hb
  clear ha hb
  generalize hn : l.length = n at *
  have HN := Lib.hid hn
  clear hn
  go_enter Tryz.func41, Tryz.ntmps41
  go_wp2_with fail
  go_loopw [5] (fun i wr => ∃ k : Nat, k ≤ n ∧ i = .int .i64 k ∧ Kp w wr) (fun i _ => n - (intOf i).toNat)
  case atStart => exact ⟨0, by omega, rfl, Kp.refl _⟩
  case round =>
    obtain ⟨k, hk, rfl, kr⟩ := hrel
    by_cases hlt : k < n
    · obtain ⟨ga, oa, rfl, ca'⟩ := HA.out (by omega)
      obtain ⟨gb, ob, rfl, cb'⟩ := HB.out (by omega)
      obtain ⟨x, hx⟩ : ∃ x, l[k]? = some x := ⟨l[k]'(by have := HN.out; omega), List.getElem?_eq_getElem _⟩
      have a0 := (ca' k x hx).keep kr
      have b0 := (cb' k x hx).keep kr
      clear ca' cb' hx
      obtain ⟨p0, p1, p2, p3⟩ := x
      unfold UniAt at a0 b0
      simp only at a0 b0
      have hlt' : (k : Int) < n := by omega
      have s0 := And.intro a0 b0
      obtain ⟨a0, a1, a2, a3⟩ := a0
      obtain ⟨b0, b1, b2, b3⟩ := b0
      go_wp2_with fail
      go_region_held3 (fun w' => w'.cell? ⟨ga, oa + k * 4, none⟩ = some (.int .i64 p0) ∧ w'.cell? ⟨ga, oa + k * 4 + 1, none⟩ = some (.int .i64 p1) ∧ w'.cell? ⟨ga, oa + k * 4 + 2, none⟩ = some (.int .i64 p2) ∧ w'.cell? ⟨ga, oa + k * 4 + 3, none⟩ = some (.int .i64 p3) ∧ w'.cell? ⟨gb, ob + k * 4, none⟩ = some (.int .i64 p0) ∧ w'.cell? ⟨gb, ob + k * 4 + 1, none⟩ = some (.int .i64 p1) ∧ w'.cell? ⟨gb, ob + k * 4 + 2, none⟩ = some (.int .i64 p2) ∧ w'.cell? ⟨gb, ob + k * 4 + 3, none⟩ = some (.int .i64 p3)) (first | assumption | exact ⟨a0, a1, a2, a3, b0, b1, b2, b3⟩ | go_keep)
        (first | (go_at_call 71; refine (eqUnit_same _ _ _ _ _).mono ?_; rintro e w1 ⟨rfl, k1⟩; have s1 := keep8u k1 (by assumption)))
      all_goals
        go_wp2_with fail
        go_roundw
        case rel => exact ⟨k + 1, by omega, by go_num, kr.drew.trans k1⟩
        case measure => simp [intOf]; omega
    · obtain rfl : k = n := by omega
      go_wp2_with fail
      go_ret
      exact ⟨rfl, kr⟩

theorem marks4_step (k0 : Int) (xs : List Value) (t n : Nat) (hl : xs.length = n * 4) (ht : t < n) :
    ((((marks k0 (t * 4) ++ xs.drop (t * 4)).set (t * 4) (.int .i64 (k0 + 4 * (t : Int)))).set (t * 4 + 1) (.int .i64 (k0 + 4 * (t : Int) + 1))).set (t * 4 + 2) (.int .i64 (k0 + 4 * (t : Int) + 1 + 1))).set (t * 4 + 3) (.int .i64 (k0 + 4 * (t : Int) + 1 + 1 + 1)) = marks k0 ((t + 1) * 4) ++ xs.drop ((t + 1) * 4) := by
  have e0 : k0 + 4 * (t : Int) = k0 + ((t * 4 : Nat) : Int) := by omega
  have e1 : k0 + 4 * (t : Int) + 1 = k0 + ((t * 4 + 1 : Nat) : Int) := by omega
  have e2 : k0 + 4 * (t : Int) + 1 + 1 = k0 + ((t * 4 + 2 : Nat) : Int) := by omega
  have e3 : k0 + 4 * (t : Int) + 1 + 1 + 1 = k0 + ((t * 4 + 3 : Nat) : Int) := by omega
  rw [e3, e2, e1, e0]
  rw [marks1_step k0 xs (t * 4) (n * 4) (by omega) (by omega), marks1_step k0 xs (t * 4 + 1) (n * 4) (by omega) (by omega), marks1_step k0 xs (t * 4 + 2) (n * 4) (by omega) (by omega), marks1_step k0 xs (t * 4 + 3) (n * 4) (by omega) (by omega), show t * 4 + 3 + 1 = (t + 1) * 4 from by omega]

set_option maxRecDepth 100000 in
theorem markUnitS_own (v : Value) (n base : Nat) (k0 : Int) (xs : List Value) (w : World) (h0 : 0 ≤ k0) (h1 : k0 ≤ 1000000000000000) (hn : n ≤ 1048576) (hown : w.ownsRow base 67 4 v n xs) :
    Calls Tryz.prog 44 #[v, .int .i64 k0] w fun e w' => e = .returned (.int .i64 (k0 + 4 * n)) ∧ w'.ownsRow base 67 4 v n (marks k0 (n * 4)) ∧ w.grownBy w' v.ownBlock := by
  rcases hown.2 with ⟨rfl, rfl⟩ | ⟨g, cap, cur, rfl, _⟩
  · go_enter Tryz.func44, Tryz.ntmps44
    go_wp2_with fail
    go_loop [1, 5] (fun k i => k = .int .i64 k0 ∧ i = .int .i64 0) (fun _ _ => 0)
    case atStart => exact ⟨rfl, rfl⟩
    case round =>
      obtain ⟨rfl, rfl⟩ := hrel
      go_wp2_with fail
      go_ret
      exact ⟨ret_int (by simp), World.ownsRow_nil _ _ _ _, World.grownBy.refl w _⟩
  · have hl : xs.length = n * 4 := hown.1
    have HL := Lib.hid hl
    clear hl
    go_enter Tryz.func44, Tryz.ntmps44
    go_wp2_with fail
    go_loopw [1, 5] (fun kk i wr => ∃ t : Nat, t ≤ n ∧ i = .int .i64 t ∧ kk = .int .i64 (k0 + 4 * t) ∧ wr.ownsRow base 67 4 (.slice (some ⟨g, 0, none⟩) n cap) n (marks k0 (t * 4) ++ xs.drop (t * 4)) ∧ w.grownBy wr (some g)) (fun _ i _ => n - (intOf i).toNat)
    case atStart => exact ⟨0, by omega, rfl, by simp, by simpa [marks] using hown, World.grownBy.refl w _⟩
    case round =>
      obtain ⟨t, ht, rfl, rfl, ho, hg⟩ := hrel
      by_cases hlt : t < n
      · have hlt' : (t : Int) < n := by omega
        have hlen : (marks k0 (t * 4) ++ xs.drop (t * 4)).length = n * 4 := ho.1
        obtain ⟨u0, hu0⟩ : ∃ u, wr.cell? ⟨g, t * 4, none⟩ = some u := ⟨_, (ho.cellAt (t * 4) (by omega)).trans (List.getElem?_eq_getElem (by omega))⟩
        have f0 := ho.frozenAt (t * 4)
        obtain ⟨u1, hu1⟩ : ∃ u, wr.cell? ⟨g, t * 4 + 1, none⟩ = some u := ⟨_, (ho.cellAt (t * 4 + 1) (by omega)).trans (List.getElem?_eq_getElem (by omega))⟩
        have f1 := ho.frozenAt (t * 4 + 1)
        obtain ⟨u2, hu2⟩ : ∃ u, wr.cell? ⟨g, t * 4 + 2, none⟩ = some u := ⟨_, (ho.cellAt (t * 4 + 2) (by omega)).trans (List.getElem?_eq_getElem (by omega))⟩
        have f2 := ho.frozenAt (t * 4 + 2)
        obtain ⟨u3, hu3⟩ : ∃ u, wr.cell? ⟨g, t * 4 + 3, none⟩ = some u := ⟨_, (ho.cellAt (t * 4 + 3) (by omega)).trans (List.getElem?_eq_getElem (by omega))⟩
        have f3 := ho.frozenAt (t * 4 + 3)
        clear hlen
        go_wp2_with fail
        go_roundw
        case rel =>
          obtain ⟨o1, g1⟩ := ho.stored (t * 4) (.int .i64 (k0 + 4 * (t : Int)))
          obtain ⟨o2, g2⟩ := o1.stored (t * 4 + 1) (.int .i64 (k0 + 4 * (t : Int) + 1))
          obtain ⟨o3, g3⟩ := o2.stored (t * 4 + 2) (.int .i64 (k0 + 4 * (t : Int) + 1 + 1))
          obtain ⟨o4, g4⟩ := o3.stored (t * 4 + 3) (.int .i64 (k0 + 4 * (t : Int) + 1 + 1 + 1))
          refine ⟨t + 1, by omega, by go_num, by go_num, ?_, ((((hg.trans g1).trans g2).trans g3).trans g4)⟩
          rw [← marks4_step k0 xs t n HL.out hlt]
          exact o4
        case measure => simp [intOf]; omega
      · obtain rfl : t = n := by omega
        go_wp2_with fail
        go_ret
        refine ⟨rfl, ?_, hg⟩
        have e : xs.drop (t * 4) = [] := List.drop_of_length_le (by rw [HL.out]; omega)
        rw [e, List.append_nil] at ho
        exact ho

set_option maxRecDepth 100000 in
theorem heldUnitS_own (v : Value) (n base : Nat) (k0 : Int) (w : World) (h0 : 0 ≤ k0) (h1 : k0 ≤ 1000000000000000) (hn : n ≤ 1048576) (hown : w.ownsRow base 67 4 v n (marks k0 (n * 4))) :
    Calls Tryz.prog 55 #[v, .int .i64 k0] w fun e w' => e = .returned (.int .i64 (k0 + 4 * n)) ∧ w = w' := by
  rcases hown.2 with ⟨rfl, rfl⟩ | ⟨g, cap, cur, rfl, _⟩
  · go_enter Tryz.func55, Tryz.ntmps55
    go_wp2_with fail
    go_loop [1, 5] (fun k i => k = .int .i64 k0 ∧ i = .int .i64 0) (fun _ _ => 0)
    case atStart => exact ⟨rfl, rfl⟩
    case round =>
      obtain ⟨rfl, rfl⟩ := hrel
      go_wp2_with fail
      go_ret
      exact ⟨ret_int (by simp), rfl⟩
  · go_enter Tryz.func55, Tryz.ntmps55
    go_wp2_with fail
    go_loop [1, 5] (fun kk i => ∃ t : Nat, t ≤ n ∧ i = .int .i64 t ∧ kk = .int .i64 (k0 + 4 * t)) (fun _ i => n - (intOf i).toNat)
    case atStart => exact ⟨0, by omega, rfl, by simp⟩
    case round =>
      obtain ⟨t, ht, rfl, rfl⟩ := hrel
      by_cases hlt : t < n
      · have hlt' : (t : Int) < n := by omega
        have c0 : w.cell? ⟨g, t * 4, none⟩ = some (.int .i64 (k0 + 4 * (t : Int))) := by
          rw [show k0 + 4 * (t : Int) = k0 + ((t * 4 : Nat) : Int) from by omega]
          exact (hown.cellAt (t * 4) (by omega)).trans (marks_at _ _ _ (by omega))
        have n0 : ((k0 + 4 * (t : Int)) != (k0 + 4 * (t : Int))) = false := by simp
        have c1 : w.cell? ⟨g, t * 4 + 1, none⟩ = some (.int .i64 (k0 + 4 * (t : Int) + 1)) := by
          rw [show k0 + 4 * (t : Int) + 1 = k0 + ((t * 4 + 1 : Nat) : Int) from by omega]
          exact (hown.cellAt (t * 4 + 1) (by omega)).trans (marks_at _ _ _ (by omega))
        have n1 : ((k0 + 4 * (t : Int) + 1) != (k0 + 4 * (t : Int) + 1)) = false := by simp
        have c2 : w.cell? ⟨g, t * 4 + 2, none⟩ = some (.int .i64 (k0 + 4 * (t : Int) + 1 + 1)) := by
          rw [show k0 + 4 * (t : Int) + 1 + 1 = k0 + ((t * 4 + 2 : Nat) : Int) from by omega]
          exact (hown.cellAt (t * 4 + 2) (by omega)).trans (marks_at _ _ _ (by omega))
        have n2 : ((k0 + 4 * (t : Int) + 1 + 1) != (k0 + 4 * (t : Int) + 1 + 1)) = false := by simp
        have c3 : w.cell? ⟨g, t * 4 + 3, none⟩ = some (.int .i64 (k0 + 4 * (t : Int) + 1 + 1 + 1)) := by
          rw [show k0 + 4 * (t : Int) + 1 + 1 + 1 = k0 + ((t * 4 + 3 : Nat) : Int) from by omega]
          exact (hown.cellAt (t * 4 + 3) (by omega)).trans (marks_at _ _ _ (by omega))
        have n3 : ((k0 + 4 * (t : Int) + 1 + 1 + 1) != (k0 + 4 * (t : Int) + 1 + 1 + 1)) = false := by simp
        go_wp2_with fail
        go_round
        case rel => exact ⟨t + 1, by omega, by go_num, by go_num⟩
        case measure => simp [intOf]; omega
      · obtain rfl : t = n := by omega
        go_wp2_with fail
        go_ret
        exact ⟨rfl, rfl⟩

theorem cellsUnit : Tryz.prog.cellsOf 97 = 4 := by kernel_rfl
set_option maxRecDepth 100000 in
theorem rdU_of_trod {H : Type} {enc : TypeId × Value → H} {W : World} {v : Value} {m : Nat} {y : DataW H × List MemPlace}
    (hf : DataW.trod enc Tryz.prog W 0 (fun _ => true) true m 31 [v] = some y) : ∃ l, RdU W v l ∧ l.length ≤ 9223372036854775807 ∧ ∀ x ∈ l, UniI x := by
  obtain ⟨A, n, c, l, rfl, hl, hm, hr⟩ := rd_structs (α := Uni) (fun g o x => UniAt W g o x ∧ UniI x) cellsUnit Tryz.underlying31 hf (fun a fu cs x hcl hat hx => by
    obtain ⟨k, hk⟩ := fields_of_trod Tryz.underlying97 (by kernel_rfl) rfl hcl hx
    obtain ⟨c0, y0, q0, h0⟩ := hk 0 _ rfl
    obtain ⟨c1, y1, q1, h1⟩ := hk 1 _ rfl
    obtain ⟨c2, y2, q2, h2⟩ := hk 2 _ rfl
    obtain ⟨c3, y3, q3, h3⟩ := hk 3 _ rfl
    obtain ⟨z0, e0, _, w0⟩ := DataW.trod_int Tryz.underlying3 h0
    obtain ⟨z1, e1, _, w1⟩ := DataW.trod_int Tryz.underlying3 h1
    obtain ⟨z2, e2, _, w2⟩ := DataW.trod_int Tryz.underlying3 h2
    obtain ⟨z3, e3, _, w3⟩ := DataW.trod_int Tryz.underlying3 h3
    simp only [List.cons.injEq, and_true] at e0 e1 e2 e3
    subst e0 e1 e2 e3
    have g0 := (hat 0 (by omega)).trans q0
    have g1 := (hat 1 (by omega)).trans q1
    have g2 := (hat 2 (by omega)).trans q2
    have g3 := (hat 3 (by omega)).trans q3
    obtain ⟨b, off, spot⟩ := a
    have hspot : spot = none := by
      have := World.cell?_spot g0
      simpa [Addr.add] using this
    subst hspot
    rw [add_none'] at g0 g1 g2 g3
    exact ⟨rfl, ⟨z0, z1, z2, z3⟩, ⟨g0, g1, g2, g3⟩, bounds_i64 w0, bounds_i64 w1, bounds_i64 w2, bounds_i64 w3⟩)
  unfold maxLen at hm
  refine ⟨l, ⟨A, c, by rw [hl], fun h0 => ?_⟩, by omega, fun x hx => ?_⟩
  · obtain ⟨g, off, e, hc⟩ := hr (by omega)
    exact ⟨g, off, e, fun i x hx => (hc i x hx).1⟩
  · obtain ⟨i, hi, rfl⟩ := List.mem_iff_getElem.1 hx
    obtain ⟨g, off, e, hc⟩ := hr (by omega)
    exact (hc i _ (List.getElem?_eq_getElem hi)).2

end Go.Proofs.YtiaahpcfciomlaaGreatDoor
