/-
  Slices of seals as lists of records: the laws' size, copy, comparison, marking and look; arguments of that type.
-/
import Derived.Test.YtnobcpgckdgheaaDoorRdS
import Derived.Test.YtnobcpgckdgheaaDoorRowC
import Derived.Test.YtnobcpgckdgheaaDoorMarkN
import Derived.Test.YtnobcpgckdgheaaDoorSzP
import Derived.Test.YtnobcpgckdgheaaDoorMk
namespace Go.Proofs.YtnobcpgckdgheaaDoor
open Go.ChangeShapes Go.WideShapes Go.ChangeAt Go.RowKit Go.Joins Go.Deep

structure Sea where
  t : Int
  s : Int
  x : Int
abbrev slx (t : Int) (s : Int) (x : Int) : Value := .agg #[.int .i64 t, .int .i64 s, .int .i64 x]
def SeaAt (w : World) (g o : Nat) (x : Sea) : Prop := w.cell? ⟨g, o, none⟩ = some (.int .i64 x.t) ∧ w.cell? ⟨g, o + 1, none⟩ = some (.int .i64 x.s) ∧ w.cell? ⟨g, o + 2, none⟩ = some (.int .i64 x.x)
theorem SeaAt.keep {w w' : World} {g o : Nat} {x : Sea} (h : SeaAt w g o x) (k : Kp w w') : SeaAt w' g o x := ⟨k.cell h.1, k.cell h.2.1, k.cell h.2.2⟩
def SeaI (x : Sea) : Prop := isI64 x.t ∧ isI64 x.s ∧ isI64 x.x
/-- The slice v reads as the list l. -/
def RdSl (w : World) (v : Value) (l : List Sea) : Prop :=
  ∃ A c, v = .slice A l.length c ∧ (0 < l.length → ∃ g off, A = some ⟨g, off, none⟩ ∧ ∀ i x, l[i]? = some x → SeaAt w g (off + i * 3) x)
theorem RdSl.keep {w w' : World} {v : Value} {l : List Sea} (h : RdSl w v l) (hk : Kp w w') : RdSl w' v l := by
  obtain ⟨A, c, rfl, h⟩ := h
  refine ⟨A, c, rfl, fun h0 => ?_⟩
  obtain ⟨g, off, rfl, hc⟩ := h h0
  exact ⟨g, off, rfl, fun i x hx => (hc i x hx).keep hk⟩
def cellsSl : List Sea → List Value
  | [] => []
  | x :: l => .int .i64 x.t :: .int .i64 x.s :: .int .i64 x.x :: cellsSl l
theorem cellsSl_length : ∀ l, (cellsSl l).length = l.length * 3
  | [] => rfl
  | x :: l => by simp only [cellsSl, List.length_cons, cellsSl_length l]; omega
theorem cellsSl_append : ∀ l m, cellsSl (l ++ m) = cellsSl l ++ cellsSl m
  | [], _ => rfl
  | x :: l, m => by simp only [cellsSl, List.cons_append, cellsSl_append l m]
theorem cellsSl_at : ∀ (l : List Sea) (i : Nat) (x : Sea), l[i]? = some x → (cellsSl l)[i * 3]? = some (.int .i64 x.t) ∧ (cellsSl l)[i * 3 + 1]? = some (.int .i64 x.s) ∧ (cellsSl l)[i * 3 + 2]? = some (.int .i64 x.x)
  | [], _, _, h => by simp at h
  | y :: l, 0, x, h => by
    simp only [List.getElem?_cons_zero, Option.some.injEq] at h
    subst h
    exact ⟨rfl, rfl, rfl⟩
  | y :: l, i + 1, x, h => by
    have := cellsSl_at l i x (by simpa using h)
    have e1 : (i + 1) * 3 = i * 3 + 1 + 1 + 1 := by omega
    rw [e1]
    exact ⟨(by simpa [cellsSl] using this.1), (by simpa [cellsSl] using this.2.1), (by simpa [cellsSl] using this.2.2)⟩

/-- The slice v owns the list l, in a block from base on. -/
def OwnSl (w : World) (base : Nat) (v : Value) (l : List Sea) : Prop := w.ownsRow base 25 3 v l.length (cellsSl l)
theorem OwnSl.rd {w : World} {base : Nat} {v : Value} {l : List Sea} (h : OwnSl w base v l) : RdSl w v l := by
  rcases h.2 with ⟨rfl, hn⟩ | ⟨g, cap, cur, rfl, hb, hg, hc, hm, hs, ht⟩
  · exact ⟨none, 0, by rw [hn], fun h0 => by omega⟩
  · refine ⟨_, _, rfl, fun _ => ⟨g, 0, rfl, fun i x hx => ?_⟩⟩
    have hi : i < l.length := (List.getElem?_eq_some_iff.1 hx).1
    have e := cellsSl_at l i x hx
    rw [Nat.zero_add]
    exact ⟨(World.ownsRow.cellAt h (i * 3) (by omega)).trans e.1, (World.ownsRow.cellAt h (i * 3 + 1) (by omega)).trans e.2.1, (World.ownsRow.cellAt h (i * 3 + 2) (by omega)).trans e.2.2⟩
theorem OwnSl.base {w : World} {base b : Nat} {v : Value} {l : List Sea} (h : OwnSl w base v l) (hb : b ≤ base) : OwnSl w b v l := ownsRow_base h hb
theorem OwnSl.keep {w w' : World} {base : Nat} {v : Value} {l : List Sea} (h : OwnSl w base v l) (hk : Kp w w') : OwnSl w' base v l := ownsRow_keep h hk
theorem OwnSl.nil (w : World) (base : Nat) : OwnSl w base (.slice none 0 0) [] := World.ownsRow_nil w base _ 3
theorem infoSealed : (Tryd.prog.info? 25).map (fun i => (i.zero, i.size, i.bytes)) = some (some (slx 0 0 0), 3, 24) := by kernel_rfl
theorem OwnSl.slice {w : World} {base : Nat} {v : Value} {l : List Sea} (h : OwnSl w base v l) : ∃ A c, v = .slice A l.length c := by
  obtain ⟨A, c, rfl, _⟩ := h.rd
  exact ⟨A, c, rfl⟩
theorem OwnSl.far {w : World} {base : Nat} {v : Value} {l : List Sea} (h : OwnSl w base v l) {g j : Nat} (hne : v.ownBlock ≠ some g) (u : Value) : OwnSl (w.setCell ⟨g, j, none⟩ u) base v l :=
  World.ownsRow.kept h (grown_set w g j u) (.inr hne)
theorem OwnSl.not {w : World} {base : Nat} {v : Value} {l : List Sea} (h : OwnSl w base v l) {g : Nat} (hg : g < base) : v.ownBlock ≠ some g := fun e => by
  have := (World.ownsRow.lt h g e).1
  omega

theorem keep6u {w w1 : World} {p0 p1 p2 p3 p4 p5 : Addr} {v0 v1 v2 v3 v4 v5 : Value} (k : Kp w w1) (h : w.cell? p0 = some v0 ∧ w.cell? p1 = some v1 ∧ w.cell? p2 = some v2 ∧ w.cell? p3 = some v3 ∧ w.cell? p4 = some v4 ∧ w.cell? p5 = some v5) : w1.cell? p0 = some v0 ∧ w1.cell? p1 = some v1 ∧ w1.cell? p2 = some v2 ∧ w1.cell? p3 = some v3 ∧ w1.cell? p4 = some v4 ∧ w1.cell? p5 = some v5 :=
  ⟨k.cell h.1, k.cell h.2.1, k.cell h.2.2.1, k.cell h.2.2.2.1, k.cell h.2.2.2.2.1, k.cell h.2.2.2.2.2⟩

theorem eqSealed_same (t : Int) (s : Int) (x : Int) (w : World) :
    Calls Tryd.prog 17 #[slx t s x, slx t s x] w fun e' w' => e' = .returned (.bool true) ∧ Kp w w' := by
  have e0 : (t != t) = false := by simp
  have e1 : (s != s) = false := by simp
  have e2 : (x != x) = false := by simp
  go_enter Tryd.func17, Tryd.ntmps17
  go_wp2
  go_ret
  exact ⟨rfl, ((Kp.refl _).alloc _).alloc _⟩

set_option maxRecDepth 100000 in
theorem toSealed_any (t : Int) (s : Int) (x : Int) (w : World) :
    Calls Tryd.prog 11 #[slx t s x] w fun e' w' => e' = .returned (slx t s x) ∧ Kp w w' := by
  go_enter Tryd.func11, Tryd.ntmps11
  go_wp2
  exact bodyPost_ret (v := slx t s x) (by simp [results, Tryd.results11, go_sem]) rfl ⟨rfl, (((Kp.refl _).alloc _).alloc _).alloc _⟩

theorem szSealedS_yes (A : Option Addr) (n c : Nat) (left : Int) (w : World) (h : (n : Int) ≤ left) (h0 : 0 ≤ left) (h1 : left ≤ 1048576) :
    Calls Tryd.prog 20 #[.slice A n c, .int .i64 left] w fun e w' => e = .returned (.int .i64 (left - n)) ∧ w = w' := by
  go_enter Tryd.func20, Tryd.ntmps20
  go_wp2
  go_ret
  exact ⟨rfl, rfl⟩
theorem szSealedS_no (A : Option Addr) (n c : Nat) (left : Int) (w : World) (h : left < n) (h0 : 0 ≤ left) (h1 : left ≤ 1048576) (hn : n ≤ 9223372036854775807) :
    Calls Tryd.prog 20 #[.slice A n c, .int .i64 left] w fun e w' => e = .returned (.int .i64 (-1)) ∧ w = w' := by
  go_enter Tryd.func20, Tryd.ntmps20
  go_wp2
  go_ret
  exact ⟨rfl, rfl⟩

theorem mkSealedN (n : Nat) (hn : n ≤ 1048576) (w : World) :
    (Instr.makeSlice 46 (.int .i64 (n : Int)) (.int .i64 (n : Int))).run Tryd.prog w = .ok (.slice (some ⟨w.heap.size, 0, none⟩) n n) (w.alloc (.cells (madeCells (slx 0 0 0).cells (n * 3)) 25)) := by
  obtain ⟨i, hi, hz, hs, hb⟩ := info_parts infoSealed
  have hr := run_make (P := Tryd.prog) w 46 25 i (slx 0 0 0) Tryd.underlying46 hi hz .i64 .i64 (n : Int) (n : Int) (by omega) (Int.le_refl _) (by rw [hb]; omega) (by omega)
  rw [hs, Int.toNat_natCast] at hr
  exact hr

set_option maxRecDepth 100000 in
set_option maxHeartbeats 1000000 in
theorem toSealedS_any (v : Value) (l : List Sea) (w : World) (h : RdSl w v l) (hl : l.length ≤ 1048576) :
    Calls Tryd.prog 23 #[v] w fun e w' => ∃ g, e = .returned (.slice (some ⟨g, 0, none⟩) l.length l.length) ∧ OwnSl w' w.heap.size (.slice (some ⟨g, 0, none⟩) l.length l.length) l ∧ Kp w w' := by
  obtain ⟨A, c, rfl, h⟩ := h
  have HA := Lib.hid h
  clear h
  obtain ⟨n, hn⟩ : ∃ n, l.length = n := ⟨_, rfl⟩
  have HN := Lib.hid hn
  rw [hn] at hl ⊢
  rw [hn] at HA
  clear hn
  have hmk := fun w => mkSealedN n hl w
  have own0 : (w.alloc (.cells (madeCells #[.int .i64 0, .int .i64 0, .int .i64 0] (n * 3)) 25)).ownsRow w.heap.size 25 3 (.slice (some ⟨w.heap.size, 0, none⟩) n n) n (madeCells #[.int .i64 0, .int .i64 0, .int .i64 0] (n * 3)).toList :=
    World.ownsRow_lit w _ n (Nat.le_refl _) (by simp only [maxLen]; omega) (by rw [size_madeCells])
  go_enter Tryd.func23, Tryd.ntmps23
  go_wp2_with fail
  go_loopw [4] (fun i wr => ∃ k : Nat, k ≤ n ∧ i = .int .i64 k ∧ (∃ ys, wr.ownsRow w.heap.size 25 3 (.slice (some ⟨w.heap.size, 0, none⟩) n n) n ys ∧ ∀ j x, j < k → l[j]? = some x → ys[j * 3]? = some (.int .i64 x.t) ∧ ys[j * 3 + 1]? = some (.int .i64 x.s) ∧ ys[j * 3 + 2]? = some (.int .i64 x.x)) ∧ Kp w wr) (fun i _ => n - (intOf i).toNat)
  case atStart => exact ⟨0, by omega, rfl, ⟨_, own0, fun j x hj => absurd hj (by omega)⟩, (Kp.refl _).alloc _⟩
  case round =>
    clear own0 hmk
    obtain ⟨k, hk, rfl, ⟨ys, ho, hys⟩, kr⟩ := hrel
    have HY := Lib.hid hys
    clear hys
    by_cases hlt : k < n
    · have hlt' : (k : Int) < n := by omega
      obtain ⟨g, off, rfl, hc⟩ := HA.out (by omega)
      obtain ⟨x, hx⟩ : ∃ x, l[k]? = some x := ⟨l[k]'(by have := HN.out; omega), List.getElem?_eq_getElem _⟩
      obtain ⟨a0, a1, a2⟩ := (hc k x hx).keep kr
      have HX := Lib.hid hx
      clear hc hx
      obtain ⟨p0, p1, p2⟩ := x
      simp only at a0 a1 a2
      have HO := Lib.hid ho
      clear ho
      go_wp2_with fail
      refine (toSealed_any _ _ _ _).mono ?_
      rintro e w1 ⟨rfl, k1⟩
      have ho := ownsRow_keep HO.out k1
      have hlen : ys.length = n * 3 := ho.1
      obtain ⟨u0, hu0⟩ : ∃ u, w1.cell? ⟨w.heap.size, k * 3, none⟩ = some u := ⟨_, (ho.cellAt (k * 3) (by omega)).trans (List.getElem?_eq_getElem (by omega))⟩
      have f0 := ho.frozenAt (k * 3)
      obtain ⟨u1, hu1⟩ : ∃ u, w1.cell? ⟨w.heap.size, k * 3 + 1, none⟩ = some u := ⟨_, (ho.cellAt (k * 3 + 1) (by omega)).trans (List.getElem?_eq_getElem (by omega))⟩
      have f1 := ho.frozenAt (k * 3 + 1)
      obtain ⟨u2, hu2⟩ : ∃ u, w1.cell? ⟨w.heap.size, k * 3 + 2, none⟩ = some u := ⟨_, (ho.cellAt (k * 3 + 2) (by omega)).trans (List.getElem?_eq_getElem (by omega))⟩
      have f2 := ho.frozenAt (k * 3 + 2)
      have HLen := Lib.hid hlen
      clear hlen
      go_wp2_with fail
      go_roundw
      case rel =>
        obtain ⟨o1, g1⟩ := ho.stored (k * 3) (.int .i64 p0)
        obtain ⟨o2, g2⟩ := o1.stored (k * 3 + 1) (.int .i64 p1)
        obtain ⟨o3, g3⟩ := o2.stored (k * 3 + 2) (.int .i64 p2)
        refine ⟨k + 1, by omega, by go_num, ⟨_, o3, fun j y hj hy => ?_⟩, ((((kr.trans k1).setCell (by simp) _).setCell (by simp) _).setCell (by simp) _)⟩
        have hlen := HLen.out
        by_cases e : k = j
        · subst e
          rw [HX.out] at hy
          obtain rfl := Option.some.inj hy
          refine ⟨?_, ?_, ?_⟩
          · rw [List.getElem?_set, if_neg (by omega), List.getElem?_set, if_neg (by omega), List.getElem?_set, if_pos rfl, if_pos (by first | omega | (simp only [List.length_set]; omega))]
          · rw [List.getElem?_set, if_neg (by omega), List.getElem?_set, if_pos rfl, if_pos (by first | omega | (simp only [List.length_set]; omega))]
          · rw [List.getElem?_set, if_pos rfl, if_pos (by first | omega | (simp only [List.length_set]; omega))]
        · have := HY.out j y (by omega) hy
          refine ⟨?_, ?_, ?_⟩
          · rw [List.getElem?_set, if_neg (by omega), List.getElem?_set, if_neg (by omega), List.getElem?_set, if_neg (by omega)]; exact this.1
          · rw [List.getElem?_set, if_neg (by omega), List.getElem?_set, if_neg (by omega), List.getElem?_set, if_neg (by omega)]; exact this.2.1
          · rw [List.getElem?_set, if_neg (by omega), List.getElem?_set, if_neg (by omega), List.getElem?_set, if_neg (by omega)]; exact this.2.2
      case measure => simp [intOf]; omega
    · obtain rfl : k = n := by omega
      go_wp2_with fail
      go_ret
      have e : ys = cellsSl l := by
        apply List.ext_getElem?
        intro j
        have hl1 : ys.length = k * 3 := ho.1
        have hl2 := HN.out
        have hl3 := cellsSl_length l
        by_cases hj : j < k * 3
        · have hi : j / 3 < l.length := by omega
          have hx : l[j / 3]? = some (l[j / 3]'hi) := List.getElem?_eq_getElem _
          have h1 := HY.out (j / 3) _ (by omega) hx
          have h2 := cellsSl_at l (j / 3) _ hx
          have hm : j % 3 = 0 ∨ j % 3 = 1 ∨ j % 3 = 2 := by omega
          rcases hm with hm | hm | hm
          · rw [show j = j / 3 * 3 from by omega, h1.1, h2.1]
          · rw [show j = j / 3 * 3 + 1 from by omega, h1.2.1, h2.2.1]
          · rw [show j = j / 3 * 3 + 2 from by omega, h1.2.2, h2.2.2]
        · rw [List.getElem?_eq_none (by omega), List.getElem?_eq_none (by omega)]
      refine ⟨_, rfl, ?_, kr⟩
      unfold OwnSl
      rw [HN.out, ← e]
      exact ho

set_option maxRecDepth 100000 in
set_option maxHeartbeats 1000000 in
theorem eqSealedS_same (va vb : Value) (l : List Sea) (w : World) (ha : RdSl w va l) (hb : RdSl w vb l) (hl : l.length ≤ 1048576) :
    Calls Tryd.prog 26 #[va, vb] w fun e w' => e = .returned (.bool true) ∧ Kp w w' := by
  obtain ⟨A, ca, rfl, ha⟩ := ha
  obtain ⟨B, cb, rfl, hb⟩ := hb
  have HA := Lib.hid ha
  have HB := Lib.hid hb
  clear ha hb
  generalize hn : l.length = n at *
  have HN := Lib.hid hn
  clear hn
  go_enter Tryd.func26, Tryd.ntmps26
  go_wp2_with fail
  go_loopw [5] (fun i wr => ∃ k : Nat, k ≤ n ∧ i = .int .i64 k ∧ Kp w wr) (fun i _ => n - (intOf i).toNat)
  case atStart => exact ⟨0, by omega, rfl, Kp.refl _⟩
  case round =>
    obtain ⟨k, hk, rfl, kr⟩ := hrel
    by_cases hlt : k < n
    · obtain ⟨ga, oa, rfl, ca'⟩ := HA.out (by omega)
      obtain ⟨gb, ob, rfl, cb'⟩ := HB.out (by omega)
      obtain ⟨x, hx⟩ : ∃ x, l[k]? = some x := ⟨l[k]'(by have := HN.out; omega), List.getElem?_eq_getElem _⟩
      have a0 := (ca' k x hx).keep kr
      have b0 := (cb' k x hx).keep kr
      clear ca' cb' hx
      obtain ⟨p0, p1, p2⟩ := x
      unfold SeaAt at a0 b0
      simp only at a0 b0
      have hlt' : (k : Int) < n := by omega
      have s0 := And.intro a0 b0
      obtain ⟨a0, a1, a2⟩ := a0
      obtain ⟨b0, b1, b2⟩ := b0
      go_wp2_with fail
      go_region_held3 (fun w' => w'.cell? ⟨ga, oa + k * 3, none⟩ = some (.int .i64 p0) ∧ w'.cell? ⟨ga, oa + k * 3 + 1, none⟩ = some (.int .i64 p1) ∧ w'.cell? ⟨ga, oa + k * 3 + 2, none⟩ = some (.int .i64 p2) ∧ w'.cell? ⟨gb, ob + k * 3, none⟩ = some (.int .i64 p0) ∧ w'.cell? ⟨gb, ob + k * 3 + 1, none⟩ = some (.int .i64 p1) ∧ w'.cell? ⟨gb, ob + k * 3 + 2, none⟩ = some (.int .i64 p2)) (first | assumption | exact ⟨a0, a1, a2, b0, b1, b2⟩ | go_keep)
        (first | (go_at_call 17; refine (eqSealed_same _ _ _ _).mono ?_; rintro e w1 ⟨rfl, k1⟩; have s1 := keep6u k1 (by assumption)))
      all_goals
        go_wp2_with fail
        go_roundw
        case rel => exact ⟨k + 1, by omega, by go_num, kr.drew.trans k1⟩
        case measure => simp [intOf]; omega
    · obtain rfl : k = n := by omega
      go_wp2_with fail
      go_ret
      exact ⟨rfl, kr⟩

theorem marks3_step (k0 : Int) (xs : List Value) (t n : Nat) (hl : xs.length = n * 3) (ht : t < n) :
    (((marks k0 (t * 3) ++ xs.drop (t * 3)).set (t * 3) (.int .i64 (k0 + 3 * (t : Int)))).set (t * 3 + 1) (.int .i64 (k0 + 3 * (t : Int) + 1))).set (t * 3 + 2) (.int .i64 (k0 + 3 * (t : Int) + 1 + 1)) = marks k0 ((t + 1) * 3) ++ xs.drop ((t + 1) * 3) := by
  have e0 : k0 + 3 * (t : Int) = k0 + ((t * 3 : Nat) : Int) := by omega
  have e1 : k0 + 3 * (t : Int) + 1 = k0 + ((t * 3 + 1 : Nat) : Int) := by omega
  have e2 : k0 + 3 * (t : Int) + 1 + 1 = k0 + ((t * 3 + 2 : Nat) : Int) := by omega
  rw [e2, e1, e0]
  rw [marks1_step k0 xs (t * 3) (n * 3) (by omega) (by omega), marks1_step k0 xs (t * 3 + 1) (n * 3) (by omega) (by omega), marks1_step k0 xs (t * 3 + 2) (n * 3) (by omega) (by omega), show t * 3 + 2 + 1 = (t + 1) * 3 from by omega]

set_option maxRecDepth 100000 in
theorem markSealedS_own (v : Value) (n base : Nat) (k0 : Int) (xs : List Value) (w : World) (h0 : 0 ≤ k0) (h1 : k0 ≤ 1000000000000000) (hn : n ≤ 1048576) (hown : w.ownsRow base 25 3 v n xs) :
    Calls Tryd.prog 34 #[v, .int .i64 k0] w fun e w' => e = .returned (.int .i64 (k0 + 3 * n)) ∧ w'.ownsRow base 25 3 v n (marks k0 (n * 3)) ∧ w.grownBy w' v.ownBlock := by
  rcases hown.2 with ⟨rfl, rfl⟩ | ⟨g, cap, cur, rfl, _⟩
  · go_enter Tryd.func34, Tryd.ntmps34
    go_wp2_with fail
    go_loop [1, 5] (fun k i => k = .int .i64 k0 ∧ i = .int .i64 0) (fun _ _ => 0)
    case atStart => exact ⟨rfl, rfl⟩
    case round =>
      obtain ⟨rfl, rfl⟩ := hrel
      go_wp2_with fail
      go_ret
      exact ⟨ret_int (by simp), World.ownsRow_nil _ _ _ _, World.grownBy.refl w _⟩
  · have hl : xs.length = n * 3 := hown.1
    have HL := Lib.hid hl
    clear hl
    go_enter Tryd.func34, Tryd.ntmps34
    go_wp2_with fail
    go_loopw [1, 5] (fun kk i wr => ∃ t : Nat, t ≤ n ∧ i = .int .i64 t ∧ kk = .int .i64 (k0 + 3 * t) ∧ wr.ownsRow base 25 3 (.slice (some ⟨g, 0, none⟩) n cap) n (marks k0 (t * 3) ++ xs.drop (t * 3)) ∧ w.grownBy wr (some g)) (fun _ i _ => n - (intOf i).toNat)
    case atStart => exact ⟨0, by omega, rfl, by simp, by simpa [marks] using hown, World.grownBy.refl w _⟩
    case round =>
      obtain ⟨t, ht, rfl, rfl, ho, hg⟩ := hrel
      by_cases hlt : t < n
      · have hlt' : (t : Int) < n := by omega
        have hlen : (marks k0 (t * 3) ++ xs.drop (t * 3)).length = n * 3 := ho.1
        obtain ⟨u0, hu0⟩ : ∃ u, wr.cell? ⟨g, t * 3, none⟩ = some u := ⟨_, (ho.cellAt (t * 3) (by omega)).trans (List.getElem?_eq_getElem (by omega))⟩
        have f0 := ho.frozenAt (t * 3)
        obtain ⟨u1, hu1⟩ : ∃ u, wr.cell? ⟨g, t * 3 + 1, none⟩ = some u := ⟨_, (ho.cellAt (t * 3 + 1) (by omega)).trans (List.getElem?_eq_getElem (by omega))⟩
        have f1 := ho.frozenAt (t * 3 + 1)
        obtain ⟨u2, hu2⟩ : ∃ u, wr.cell? ⟨g, t * 3 + 2, none⟩ = some u := ⟨_, (ho.cellAt (t * 3 + 2) (by omega)).trans (List.getElem?_eq_getElem (by omega))⟩
        have f2 := ho.frozenAt (t * 3 + 2)
        clear hlen
        go_wp2_with fail
        go_roundw
        case rel =>
          obtain ⟨o1, g1⟩ := ho.stored (t * 3) (.int .i64 (k0 + 3 * (t : Int)))
          obtain ⟨o2, g2⟩ := o1.stored (t * 3 + 1) (.int .i64 (k0 + 3 * (t : Int) + 1))
          obtain ⟨o3, g3⟩ := o2.stored (t * 3 + 2) (.int .i64 (k0 + 3 * (t : Int) + 1 + 1))
          refine ⟨t + 1, by omega, by go_num, by go_num, ?_, (((hg.trans g1).trans g2).trans g3)⟩
          rw [← marks3_step k0 xs t n HL.out hlt]
          exact o3
        case measure => simp [intOf]; omega
      · obtain rfl : t = n := by omega
        go_wp2_with fail
        go_ret
        refine ⟨rfl, ?_, hg⟩
        have e : xs.drop (t * 3) = [] := List.drop_of_length_le (by rw [HL.out]; omega)
        rw [e, List.append_nil] at ho
        exact ho

theorem cellsSealed : Tryd.prog.cellsOf 23 = 3 := by kernel_rfl
set_option maxRecDepth 100000 in
theorem rdSl_of_trod {H : Type} {enc : TypeId × Value → H} {W : World} {v : Value} {m : Nat} {y : DataW H × List MemPlace}
    (hf : DataW.trod enc Tryd.prog W 0 (fun _ => true) true m 40 [v] = some y) : ∃ l, RdSl W v l ∧ l.length ≤ 9223372036854775807 ∧ ∀ x ∈ l, SeaI x := by
  obtain ⟨A, n, c, l, rfl, hl, hm, hr⟩ := rd_structs (α := Sea) (fun g o x => SeaAt W g o x ∧ SeaI x) cellsSealed Tryd.underlying40 hf (fun a fu cs x hcl hat hx => by
    obtain ⟨k, hk⟩ := fields_of_trod Tryd.underlying23 (by kernel_rfl) rfl hcl hx
    obtain ⟨c0, y0, q0, h0⟩ := hk 0 _ rfl
    obtain ⟨c1, y1, q1, h1⟩ := hk 1 _ rfl
    obtain ⟨c2, y2, q2, h2⟩ := hk 2 _ rfl
    obtain ⟨z0, e0, _, w0⟩ := DataW.trod_int Tryd.underlying3 h0
    obtain ⟨z1, e1, _, w1⟩ := DataW.trod_int Tryd.underlying3 h1
    obtain ⟨z2, e2, _, w2⟩ := DataW.trod_int Tryd.underlying3 h2
    simp only [List.cons.injEq, and_true] at e0 e1 e2
    subst e0 e1 e2
    have g0 := (hat 0 (by omega)).trans q0
    have g1 := (hat 1 (by omega)).trans q1
    have g2 := (hat 2 (by omega)).trans q2
    obtain ⟨b, off, spot⟩ := a
    have hspot : spot = none := by
      have := World.cell?_spot g0
      simpa [Addr.add] using this
    subst hspot
    rw [add_none'] at g0 g1 g2
    exact ⟨rfl, ⟨z0, z1, z2⟩, ⟨g0, g1, g2⟩, bounds_i64 w0, bounds_i64 w1, bounds_i64 w2⟩)
  unfold maxLen at hm
  refine ⟨l, ⟨A, c, by rw [hl], fun h0 => ?_⟩, by omega, fun x hx => ?_⟩
  · obtain ⟨g, off, e, hc⟩ := hr (by omega)
    exact ⟨g, off, e, fun i x hx => (hc i x hx).1⟩
  · obtain ⟨i, hi, rfl⟩ := List.mem_iff_getElem.1 hx
    obtain ⟨g, off, e, hc⟩ := hr (by omega)
    exact (hc i _ (List.getElem?_eq_getElem hi)).2

theorem openSealed_list {l : List Value} (hl : l.length = 3) {c0 : Value} {c1 : Value} {c2 : Value} (q0 : l[0]? = some c0) (q1 : l[1]? = some c1) (q2 : l[2]? = some c2) : l = [c0, c1, c2] := by
  match l, hl with
  | [x0, x1, x2], _ =>
    simp at q0 q1 q2
    subst q0 q1 q2
    rfl
set_option maxRecDepth 100000 in
/-- An argument that is one such struct. -/
theorem openSealed {H : Type} {enc : TypeId × Value → H} {W : World} {base : Nat} {v : Value} {d : DataW H} {p : List MemPlace}
    (hv : Value.okWide Tryd.prog W .any base 23 v) (h : DataW.Trod enc Tryd.prog W 0 (fun _ => true) true 23 v d p) :
    ∃ x : Sea, v = slx x.t x.s x.x ∧ SeaI x := by
  obtain ⟨cs, n, rfl, hl, hk⟩ := open_fields Tryd.underlying23 (by kernel_rfl) cellsSealed rfl hv h
  obtain ⟨c0, y0, q0, h0⟩ := hk 0 _ rfl
  obtain ⟨c1, y1, q1, h1⟩ := hk 1 _ rfl
  obtain ⟨c2, y2, q2, h2⟩ := hk 2 _ rfl
  obtain rfl := openSealed_list hl q0 q1 q2
  obtain ⟨z0, e0, _, w0⟩ := DataW.trod_int Tryd.underlying3 h0
  obtain ⟨z1, e1, _, w1⟩ := DataW.trod_int Tryd.underlying3 h1
  obtain ⟨z2, e2, _, w2⟩ := DataW.trod_int Tryd.underlying3 h2
  simp only [List.cons.injEq, and_true] at e0 e1 e2
  subst e0 e1 e2
  exact ⟨⟨z0, z1, z2⟩, rfl, bounds_i64 w0, bounds_i64 w1, bounds_i64 w2⟩

end Go.Proofs.YtnobcpgckdgheaaDoor
