/-
  The first order of a unit in a sheet, both sides: the order (its path in memory of its own), and whether there is one. Nothing that was there is changed.
-/
import Derived.Test.YtacgknllagdkoaaOfF
namespace Go.Proofs.Ytacgknllagdkoaa
open Go.ChangeShapes Go.WideShapes Go.ChangeAt Go.RowKit Go.Joins Go.Deep

/-- The cells of an order, whose path reads as a list and lies as lists of the call's own do. -/
def OdS (w : World) (g o : Nat) (x : Odr) : Prop :=
  ∃ A c, (w.cell? ⟨g, o, none⟩ = some (.int .i64 x.u) ∧ w.cell? ⟨g, o + 1, none⟩ = some (.slice A x.p.length c) ∧ w.cell? ⟨g, o + 2, none⟩ = some (.int .i64 x.a)) ∧ RdI w (.slice A x.p.length c) x.p ∧ SlI (.slice A x.p.length c) x.p.length
theorem OdS.keep {w w' : World} {g o : Nat} {x : Odr} (h : OdS w g o x) (k : Kp w w') : OdS w' g o x := by
  obtain ⟨A, c, h, hr, hs⟩ := h
  exact ⟨A, c, ⟨k.cell h.1, k.cell h.2.1, k.cell h.2.2⟩, hr.keep k, hs⟩
def RdOS (w : World) (A : Option Addr) (n : Nat) (l : List Odr) : Prop :=
  l.length = n ∧ (0 < n → ∃ g off, A = some ⟨g, off, none⟩ ∧ ∀ i x, l[i]? = some x → OdS w g (off + i * 3) x)
theorem RdOS.keep {w w' : World} {A : Option Addr} {n : Nat} {l : List Odr} (h : RdOS w A n l) (k : Kp w w') : RdOS w' A n l := ⟨h.1, fun h0 => by
  obtain ⟨g, off, e, hc⟩ := h.2 h0
  exact ⟨g, off, e, fun i x hx => (hc i x hx).keep k⟩⟩
theorem OwnOd.rds {w : World} {g n : Nat} {l : List Odr} {cs : List (Option Addr × Nat)} {ys : List Value} (h : OwnOd w g n l cs ys) (hl : l.length = n) (hc : cs.length = n) : RdOS w (some ⟨g, 0, none⟩) n l :=
  ⟨hl, fun _ => ⟨g, 0, rfl, fun i x hx => by
    have hi := lt_of_at hx
    have hcs : cs[i]? = some (cs[i]'(by omega)) := List.getElem?_eq_getElem _
    obtain ⟨h0, h1, h2⟩ := h.here i x _ hx hcs
    have hlen : ys.length = n * 3 := h.row.1
    have e := (h.each i x _ hx hcs).rd
    rw [Nat.zero_add]
    refine ⟨_, _, ⟨?_, ?_, ?_⟩, e, (h.each i x _ hx hcs).sl⟩
    · exact (h.row.cellAt (i * 3) (by omega)).trans h0
    · exact (h.row.cellAt (i * 3 + 1) (by omega)).trans h1
    · exact (h.row.cellAt (i * 3 + 2) (by omega)).trans h2⟩⟩
/-- The first order of a unit. -/
def fndO (u : Int) : List Odr → Option Odr
  | [] => none
  | x :: l => if x.u = u then some x else fndO u l
theorem fndO_step {u : Int} {l : List Odr} {q : Nat} {x : Odr} (h : l[q]? = some x) (hx : x.u ≠ u) : fndO u (l.drop q) = fndO u (l.drop (q + 1)) := by
  obtain ⟨hk, rfl⟩ := List.getElem?_eq_some_iff.1 h
  rw [List.drop_eq_getElem_cons hk, fndO, if_neg hx]
theorem fndO_stop {u : Int} {l : List Odr} {q : Nat} {x : Odr} (h : l[q]? = some x) (hx : x.u = u) : fndO u (l.drop q) = some x := by
  obtain ⟨hk, rfl⟩ := List.getElem?_eq_some_iff.1 h
  rw [List.drop_eq_getElem_cons hk, fndO, if_pos hx]
/-- Its place, or -1. -/
def idxO (u : Int) : List Odr → Nat → Int
  | [], _ => -1
  | x :: l, k => if x.u = u then (k : Int) else idxO u l (k + 1)
theorem idxO_step {u : Int} {l : List Odr} {q : Nat} {x : Odr} (h : l[q]? = some x) (hx : x.u ≠ u) : idxO u (l.drop q) q = idxO u (l.drop (q + 1)) (q + 1) := by
  obtain ⟨hk, rfl⟩ := List.getElem?_eq_some_iff.1 h
  rw [List.drop_eq_getElem_cons hk, idxO, if_neg hx]
theorem idxO_stop {u : Int} {l : List Odr} {q : Nat} {x : Odr} (h : l[q]? = some x) (hx : x.u = u) : idxO u (l.drop q) q = (q : Int) := by
  obtain ⟨hk, rfl⟩ := List.getElem?_eq_some_iff.1 h
  rw [List.drop_eq_getElem_cons hk, idxO, if_pos hx]
theorem idx_fnd (u : Int) : ∀ (l : List Odr) (k : Nat), (idxO u l k = -1 ∧ fndO u l = none) ∨ ∃ (q : Nat) (x : Odr), idxO u l k = ((k + q : Nat) : Int) ∧ l[q]? = some x ∧ fndO u l = some x
  | [], _ => .inl ⟨rfl, rfl⟩
  | x :: l, k => by
    by_cases h : x.u = u
    · exact .inr ⟨0, x, by rw [idxO, if_pos h]; rfl, rfl, by rw [fndO, if_pos h]⟩
    · rcases idx_fnd u l (k + 1) with ⟨h1, h2⟩ | ⟨q, y, h1, h2, h3⟩
      · exact .inl ⟨by rw [idxO, if_neg h, h1], by rw [fndO, if_neg h, h2]⟩
      · exact .inr ⟨q + 1, y, by rw [idxO, if_neg h, h1]; congr 1; omega, by simpa using h2, by rw [fndO, if_neg h, h3]⟩
abbrev noO : Odr := ⟨0, [], 0⟩
/-- What OrderOf hands back. -/
def OfPost (r : Option Odr) (w : World) (e : Ending) (w' : World) : Prop :=
  ∃ A c, e = .returned (.tuple #[ov (r.getD noO).u (.slice A (r.getD noO).p.length c) (r.getD noO).a, .bool r.isSome]) ∧ OwnI w' w.heap.size (.slice A (r.getD noO).p.length c) (r.getD noO).p ∧ Kp w w'

/-- A box of three cells that may be written. -/
def Liv3 (w : World) (b : Nat) : Prop := ∃ x y z, (w.cell? ⟨b, 0, none⟩ = some x ∧ w.frozen? ⟨b, 0, none⟩ = false) ∧ (w.cell? ⟨b, 1, none⟩ = some y ∧ w.frozen? ⟨b, 1, none⟩ = false) ∧ (w.cell? ⟨b, 2, none⟩ = some z ∧ w.frozen? ⟨b, 2, none⟩ = false)
theorem Liv3.keep {w w' : World} {b : Nat} (h : Liv3 w b) (k : Kp w w') : Liv3 w' b := by
  obtain ⟨x, y, z, h0, h1, h2⟩ := h
  exact ⟨x, y, z, k.liv h0, k.liv h1, k.liv h2⟩
theorem Liv3.drew {w : World} {b : Nat} (h : Liv3 w b) : Liv3 w.drew b := by
  obtain ⟨x, y, z, h0, h1, h2⟩ := h
  exact ⟨x, y, z, h0, h1, h2⟩

set_option maxRecDepth 100000 in
set_option maxHeartbeats 4000000 in
theorem oOwn_any (u a : Int) (v : Value) (l : List Int) (w : World) (hs : SlI v l.length) (hr : RdI w v l) (hn : l.length ≤ 1048576) :
    Calls Try.prog 14 #[ov u v a] w fun e w' => ∃ A' c', e = .returned (ov u (.slice A' l.length c') a) ∧ OwnI w' w.heap.size (.slice A' l.length c') l ∧ Kp w w' := by
  have C : Hid (∀ w, RdI w v l → Calls Try.prog 25 #[v] w fun e w' => ∃ A' c', e = .returned (.slice A' l.length c') ∧ OwnI w' w.heap.size (.slice A' l.length c') l ∧ Kp w w') := Lib.hid fun w h => l1OwnQ_sl v l w hs h hn
  have HR := Lib.hid hr
  have s1 : (fun w' => w'.cell? ⟨w.heap.size, 0, none⟩ = some (.int .i64 u) ∧ w'.cell? ⟨w.heap.size, 1, none⟩ = some v ∧ w'.cell? ⟨w.heap.size, 2, none⟩ = some (.int .i64 a) ∧ Liv3 w' (w.heap.size + 1) ∧ Kp w w' ∧ w.heap.size + 2 ≤ w'.heap.size) ((w.alloc (.cells #[.int .i64 u, v, .int .i64 a] 28)).alloc (.cells #[.int .i64 0, .slice none 0 0, .int .i64 0] 28)).drew := ⟨by simp [go_sem], by simp [go_sem], by simp [go_sem], ⟨.int .i64 0, .slice none 0 0, .int .i64 0, ⟨by simp [go_sem], by simp [go_sem]⟩, ⟨by simp [go_sem], by simp [go_sem]⟩, ⟨by simp [go_sem], by simp [go_sem]⟩⟩, (((Kp.refl w).alloc _).alloc _).drew, by simp⟩
  clear hr hs
  generalize l.length = n at C ⊢
  go_enter Try.func14, Try.ntmps14
  go_upto_region 1 with (fail)
  refine wp_region_held_drew (S := (fun w' => w'.cell? ⟨w.heap.size, 0, none⟩ = some (.int .i64 u) ∧ w'.cell? ⟨w.heap.size, 1, none⟩ = some v ∧ w'.cell? ⟨w.heap.size, 2, none⟩ = some (.int .i64 a) ∧ Liv3 w' (w.heap.size + 1) ∧ Kp w w' ∧ w.heap.size + 2 ≤ w'.heap.size)) (by kernel_rfl) ?_ (fun hHeld => ?_)
  · exact s1
  refine wpAnyH_take (i := 0) (oi := ⟨some 3, _, _, _, _, _⟩) (v := ?_) rfl (by kernel_rfl) (by kernel_rfl) (by kernel_rfl) (fun _ _ _ h => h) (Or.inl ⟨by rfl, ?_⟩) (by assumption) ?_
  rotate_left
  · intro w hSw; (try dsimp only at hSw); go_simp; (all_goals with_reducible rfl)
  simp only [Act.put, List.setIfInBounds_toArray, List.set_cons_zero, List.set_cons_succ]
  refine wpAnyH_take (i := 1) (oi := ⟨some 4, _, _, _, _, _⟩) (v := ?_) rfl (by kernel_rfl) (by kernel_rfl) (by kernel_rfl) (fun _ _ _ h => h) (Or.inl ⟨by rfl, ?_⟩) (by assumption) ?_
  rotate_left
  · intro w hSw; (try dsimp only at hSw); go_simp; (all_goals with_reducible rfl)
  simp only [Act.put, List.setIfInBounds_toArray, List.set_cons_zero, List.set_cons_succ]
  refine wpAnyH_take (i := 2) (oi := ⟨some 5, _, _, _, _, _⟩) (v := ?_) rfl (by kernel_rfl) (by kernel_rfl) (by kernel_rfl) (fun _ _ _ h => h) (Or.inl ⟨by rfl, ?_⟩) (by assumption) ?_
  rotate_left
  · intro w hSw; (try dsimp only at hSw); go_simp; (all_goals with_reducible rfl)
  simp only [Act.put, List.setIfInBounds_toArray, List.set_cons_zero, List.set_cons_succ]
  refine wpAnyH_take (i := 3) (oi := ⟨some 6, _, _, _, _, _⟩) (v := ?_) rfl (by kernel_rfl) (by kernel_rfl) (by kernel_rfl) (fun _ _ _ h => h) (Or.inl ⟨by rfl, ?_⟩) (by assumption) ?_
  rotate_left
  · intro w hSw; (try dsimp only at hSw); go_simp; (all_goals with_reducible rfl)
  simp only [Act.put, List.setIfInBounds_toArray, List.set_cons_zero, List.set_cons_succ]
  refine wpAnyH_take (i := 5) (oi := ⟨some 8, _, _, _, _, _⟩) (v := ?_) rfl (by kernel_rfl) (by kernel_rfl) (by kernel_rfl) (fun _ _ _ h => h) (Or.inl ⟨by rfl, ?_⟩) (by assumption) ?_
  rotate_left
  · intro w hSw; (try dsimp only at hSw); go_simp; (all_goals with_reducible rfl)
  simp only [Act.put, List.setIfInBounds_toArray, List.set_cons_zero, List.set_cons_succ]
  refine wpAnyH_take (i := 6) (oi := ⟨some 9, _, _, _, _, _⟩) (v := ?_) rfl (by kernel_rfl) (by kernel_rfl) (by kernel_rfl) (fun _ _ _ h => h) (Or.inl ⟨by rfl, ?_⟩) (by assumption) ?_
  rotate_left
  · intro w hSw; (try dsimp only at hSw); go_simp; (all_goals with_reducible rfl)
  simp only [Act.put, List.setIfInBounds_toArray, List.set_cons_zero, List.set_cons_succ]
  refine wpAnyH_ready (rs := [4]) (by kernel_rfl) (by simp) ?_
  refine AllReadyH.cons (o := ⟨some 7, _, _, _, _, _⟩) rfl (fun K hK => ?_) AllReadyH.nil
  go_simp
  refine (C.out _ (HR.out.keep hHeld.2.2.2.2.1)).mono ?_; rintro e1 w1 ⟨A1, c1, rfl, o1, k1⟩; have O1 := Lib.hid (o1.base (b := w.heap.size + 2) hHeld.2.2.2.2.2); have hz1 := k1.size; have s2 : (fun w' => w'.cell? ⟨w.heap.size, 0, none⟩ = some (.int .i64 u) ∧ w'.cell? ⟨w.heap.size, 1, none⟩ = some v ∧ w'.cell? ⟨w.heap.size, 2, none⟩ = some (.int .i64 a) ∧ Liv3 w' (w.heap.size + 1) ∧ Kp w w' ∧ w.heap.size + 2 ≤ w'.heap.size) w1 := ⟨k1.cell hHeld.1, k1.cell hHeld.2.1, k1.cell hHeld.2.2.1, hHeld.2.2.2.1.keep k1, hHeld.2.2.2.2.1.trans k1, by have := hHeld.2.2.2.2.2; omega⟩; clear o1 k1 hz1
  go_wp2_with fail
  refine hK.out _ _ ?_ (fun hHeld => ?_)
  · (try dsimp only); (first | assumption | exact s2 | (exact ⟨by simp [go_sem, hq0], by simp [go_sem, hq1], by simp [go_sem, hq2], ⟨.int .i64 u, .slice A1 n c1, .int .i64 a, ⟨by simp [go_sem, la0], by simp [go_sem, lb0]⟩, ⟨by simp [go_sem, la1], by simp [go_sem, lb1]⟩, ⟨by simp [go_sem, la2], by simp [go_sem, lb2]⟩⟩, ((hqk.setCell (by simp <;> omega) _).setCell (by simp <;> omega) _).setCell (by simp <;> omega) _, by simpa using hqz⟩) | exact s1)
  clear hK K
  try simp only [Act.put, List.setIfInBounds_toArray, List.set_cons_zero, List.set_cons_succ]
  refine wpAnyH_take (i := 7) (oi := ⟨some 10, _, _, _, _, _⟩) (v := ?_) rfl (by kernel_rfl) (by kernel_rfl) (by kernel_rfl) (fun _ _ _ h => h) (Or.inl ⟨by rfl, ?_⟩) (by assumption) ?_
  rotate_left
  · intro w hSw; (try dsimp only at hSw); go_simp; (all_goals with_reducible rfl)
  simp only [Act.put, List.setIfInBounds_toArray, List.set_cons_zero, List.set_cons_succ]
  refine wpAnyH_ready (rs := [8]) (by kernel_rfl) (by simp) ?_
  refine AllReadyH.cons (o := ⟨none, _, _, _, _, _⟩) rfl (fun K hK => ?_) AllReadyH.nil
  obtain ⟨hq0, hq1, hq2, ⟨lx, ly, lz, ⟨la0, lb0⟩, ⟨la1, lb1⟩, ⟨la2, lb2⟩⟩, hqk, hqz⟩ := hHeld
  go_simp
  refine hK.out _ _ ?_ (fun hHeld => ?_)
  · (try dsimp only); (first | assumption | exact s2 | (exact ⟨by simp [go_sem, hq0], by simp [go_sem, hq1], by simp [go_sem, hq2], ⟨.int .i64 u, .slice A1 n c1, .int .i64 a, ⟨by simp [go_sem, la0], by simp [go_sem, lb0]⟩, ⟨by simp [go_sem, la1], by simp [go_sem, lb1]⟩, ⟨by simp [go_sem, la2], by simp [go_sem, lb2]⟩⟩, ((hqk.setCell (by simp <;> omega) _).setCell (by simp <;> omega) _).setCell (by simp <;> omega) _, by simpa using hqz⟩) | exact s1)
  clear hK K
  try simp only [Act.put, List.setIfInBounds_toArray, List.set_cons_zero, List.set_cons_succ]
  refine wpAnyH_done (by kernel_rfl) ?_ _
  go_wp2_with fail
  have n1 : ∀ g, g < w.heap.size + 2 → (Value.slice A1 n c1).ownBlock ≠ some g := fun g hg => O1.out.not (by omega)
  refine bodyPost_ret (v := ov u (.slice A1 n c1) a) (by simp [results, Try.results14, go_sem, *]) rfl ⟨_, _, rfl, ?_, ?_⟩
  · exact (((O1.out.far (n1 _ (by omega)) _).far (n1 _ (by omega)) _).far (n1 _ (by omega)) _).base (by omega)
  · exact ((hqk.setCell (by simp <;> omega) _).setCell (by simp <;> omega) _).setCell (by simp <;> omega) _

set_option maxRecDepth 100000 in
set_option maxHeartbeats 4000000 in
theorem ofClo_any (uu a u : Int) (v : Value) (b : Nat) (w : World) (h : w.cell? ⟨b, 0, none⟩ = some (.int .i64 u)) :
    Calls Try.prog 17 #[ov uu v a, .pointer (some ⟨b, 0, none⟩)] w fun e w' => e = .returned (.bool (decide (uu = u))) ∧ Kp w w' := by
  have KA : Kp w (w.alloc (.cells #[.int .i64 uu, v, .int .i64 a] 28)) := (Kp.refl w).alloc _
  have h1 := KA.cell h
  clear h
  go_enter Try.func17, Try.ntmps17
  go_wp2_with fail
  go_ret
  exact ⟨ret_bool (by first | rfl | simp | (by_cases h : uu = u <;> simp [h])), KA⟩

set_option maxRecDepth 100000 in
set_option maxHeartbeats 4000000 in
theorem ofIdx_any (u : Int) (b : Nat) (A : Option Addr) (n c : Nat) (l : List Odr) (w : World) (hx : RdOS w A n l) (hn : n ≤ 1048576) (hb : w.cell? ⟨b, 0, none⟩ = some (.int .i64 u)) :
    Calls Try.prog 16 #[.slice A n c, .func (.func 17) #[] #[.pointer (some ⟨b, 0, none⟩)]] w fun e w' => e = .returned (.int .i64 (idxO u l 0)) ∧ Kp w w' := by
  have HX := Lib.hid hx.2
  have HN := Lib.hid hx.1
  have HBB := Lib.hid hb
  have HPP := Lib.hid (fun (uu a : Int) (v : Value) (w : World) h => ofClo_any uu a u v b w h)
  obtain ⟨R, hR⟩ : ∃ R, R = idxO u l 0 := ⟨_, rfl⟩
  rw [← hR]
  have HR := Lib.hid hR
  clear hx hb hR
  go_enter Try.func16, Try.ntmps16
  go_wp2_with fail
  go_loopw [5, 8] (fun _ i wr => ∃ k : Nat, k ≤ n ∧ i = .int .i64 k ∧ Hid (idxO u (l.drop k) k = R) ∧ Kp w wr) (fun _ i _ => n - (intOf i).toNat)
  case atStart => exact ⟨0, by omega, rfl, Lib.hid (by rw [List.drop_zero]; exact HR.out.symm), Kp.refl w⟩
  case round =>
    obtain ⟨k, hkn, rfl, hE, kr⟩ := hrel
    by_cases hlt : k < n
    · obtain ⟨g', off, rfl, hc⟩ := HX.out (by omega)
      obtain ⟨z, hz⟩ : ∃ z, l[k]? = some z := ⟨l[k]'(by have := HN.out; omega), List.getElem?_eq_getElem _⟩
      obtain ⟨Ao, cx, ⟨a0w, a1w, a2w⟩, _⟩ := hc k z hz
      have a0 := kr.cell a0w
      have a1 := kr.cell a1w
      have a2 := kr.cell a2w
      have HZ := Lib.hid hz
      have hbr := kr.cell HBB.out
      have hlt' : (k : Int) < n := by omega
      clear hc hz a0w a1w a2w
      obtain ⟨ux, px, ax⟩ := z
      simp only at a0 a1 a2
      generalize px.length = np at a1
      have HC := Lib.hid (HPP.out ux ax (.slice Ao np cx) wr hbr)
      clear hbr
      by_cases hok : ux = u
      · have HE2 : Hid ((k : Int) = R) := Lib.hid (by rw [← hE.out, idxO_stop HZ.out hok])
        have hd : decide (ux = u) = true := by simpa using hok
        rw [hd] at HC
        clear hd hok
        go_wp2_with (go_at_call 17; refine HC.out.mono ?_; rintro e2 w2 ⟨rfl, k2⟩)
        go_ret
        exact ⟨ret_int HE2.out, kr.trans k2⟩
      · have HE2 : Hid (idxO u (l.drop (k + 1)) (k + 1) = R) := Lib.hid (by rw [← hE.out, idxO_step HZ.out hok])
        have hd : decide (ux = u) = false := by simpa using hok
        rw [hd] at HC
        clear hd hok
        go_wp2_with (go_at_call 17; refine HC.out.mono ?_; rintro e2 w2 ⟨rfl, k2⟩)
        go_roundw
        case rel => exact ⟨k + 1, by omega, by go_num, HE2, kr.trans k2⟩
        case measure => simp [intOf]; omega
    · obtain rfl : k = n := by omega
      have HE2 : Hid ((-1 : Int) = R) := Lib.hid (by
        rw [← hE.out, List.drop_eq_nil_of_le (by have := HN.out; omega)]
        rfl)
      go_wp2_with fail
      go_ret
      exact ⟨ret_int HE2.out, kr⟩

end Go.Proofs.Ytacgknllagdkoaa
