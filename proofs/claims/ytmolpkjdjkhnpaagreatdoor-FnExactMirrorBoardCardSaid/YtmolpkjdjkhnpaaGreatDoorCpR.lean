/-
  The program's copy of rules: new rows of terrains and kinds, new costs, all in memory of their own. Nothing that was there is changed.
-/
import Derived.Test.YtmolpkjdjkhnpaaGreatDoorClB
import Derived.StillTailTactics
import Derived.Deep.Cut
import Derived.Deep.RegionHeld3
namespace Go.Proofs.YtmolpkjdjkhnpaaGreatDoor
open Go.RowKit

/-- A row of terrains, the costs of the first ones (as many as cs is long) in blocks of their own, the others' as they were in W0. -/
structure ClT (W0 w : World) (lo g n cap : Nat) (l : List Ter) (cs : List (Option Addr × Nat)) (ys : List Value) : Prop where
  row : w.ownsRow lo 65 5 (.slice (some ⟨g, 0, none⟩) n cap) n ys
  here : ∀ (j : Nat) (x : Ter), l[j]? = some x → ∃ d : Option Addr × Nat, TerIn ys j x d ∧ (∀ c, cs[j]? = some c → d = c) ∧ (cs.length ≤ j → RdI W0 (.slice d.1 x.cost.length d.2) x.cost)
  each : ∀ (j : Nat) (x : Ter) (c : Option Addr × Nat), l[j]? = some x → cs[j]? = some c → OwnI w (g + 1) (.slice c.1 x.cost.length c.2) x.cost
  apart : ∀ (i j : Nat) (c d : Option Addr × Nat), i < j → cs[i]? = some c → cs[j]? = some d → ∀ (x y k : Nat), (Value.slice c.1 x c.2).ownBlock = some k → (Value.slice d.1 y d.2).ownBlock ≠ some k
theorem ClT.keep {W0 w w' : World} {lo g n cap : Nat} {l : List Ter} {cs : List (Option Addr × Nat)} {ys : List Value} (h : ClT W0 w lo g n cap l cs ys) (k : Kp w w') : ClT W0 w' lo g n cap l cs ys :=
  ⟨ownsRow_keep h.row k, h.here, fun j x c hx hc => (h.each j x c hx hc).keep k, h.apart⟩
theorem terIn_cost {ys : List Value} {j : Nat} {x : Ter} {d : Option Addr × Nat} {A : Option Addr} {c : Nat} (h : TerIn ys j x d) : TerIn (ys.set (j * 5 + 1) (.slice A x.cost.length c)) j x (A, c) := by
  obtain ⟨h0, h1, h2, h3, h4⟩ := h
  have hl := (List.getElem?_eq_some_iff.1 h1).1
  exact ⟨by rw [List.getElem?_set_ne (by omega)]; exact h0, by rw [List.getElem?_set_self hl], by rw [List.getElem?_set_ne (by omega)]; exact h2, by rw [List.getElem?_set_ne (by omega)]; exact h3, by rw [List.getElem?_set_ne (by omega)]; exact h4⟩
theorem terIn_far {ys : List Value} {j k : Nat} {x : Ter} {d : Option Addr × Nat} {v : Value} (h : TerIn ys j x d) (hj : j ≠ k) : TerIn (ys.set (k * 5 + 1) v) j x d := by
  obtain ⟨h0, h1, h2, h3, h4⟩ := h
  exact ⟨by rw [List.getElem?_set_ne (by omega)]; exact h0, by rw [List.getElem?_set_ne (by omega)]; exact h1, by rw [List.getElem?_set_ne (by omega)]; exact h2, by rw [List.getElem?_set_ne (by omega)]; exact h3, by rw [List.getElem?_set_ne (by omega)]; exact h4⟩
theorem ClT.step {W0 w w1 : World} {lo g n cap k : Nat} {l : List Ter} {cs : List (Option Addr × Nat)} {ys : List Value} {x : Ter} {A : Option Addr} {c : Nat} (h : ClT W0 w lo g n cap l cs ys) (hcs : cs.length = k) (hx : l[k]? = some x) (k1 : Kp w w1) (hg : g < w.heap.size)
    (ho : OwnI w1 w.heap.size (.slice A x.cost.length c) x.cost) : ClT W0 (w1.setCell ⟨g, k * 5 + 1, none⟩ (.slice A x.cost.length c)) lo g n cap l (cs ++ [(A, c)]) (ys.set (k * 5 + 1) (.slice A x.cost.length c)) := by
  have far : ∀ {v l'}, OwnI w1 (g + 1) v l' → OwnI (w1.setCell ⟨g, k * 5 + 1, none⟩ (.slice A x.cost.length c)) (g + 1) v l' := fun {v l'} o => o.far (o.not (g := g) (by omega)) _
  refine ⟨((ownsRow_keep h.row k1).stored (k * 5 + 1) _).1, ?_, ?_, ?_⟩
  · intro j y hy
    obtain ⟨d, hd, hc, hr⟩ := h.here j y hy
    by_cases e : j = k
    · subst e
      rw [hx] at hy
      obtain rfl := Option.some.inj hy
      refine ⟨(A, c), terIn_cost hd, fun c' hc' => ?_, fun hl => ?_⟩
      · rw [List.getElem?_append_right (by omega), hcs, Nat.sub_self] at hc'
        simpa using hc'
      · simp only [List.length_append, List.length_cons, List.length_nil] at hl
        omega
    · refine ⟨d, terIn_far hd e, fun c' hc' => ?_, fun hl => hr (by rw [List.length_append] at hl; omega)⟩
      rcases Nat.lt_or_ge j k with g1 | g1
      · rw [List.getElem?_append_left (by omega)] at hc'
        exact hc c' hc'
      · have := (List.getElem?_eq_some_iff.1 hc').1
        rw [List.length_append, hcs] at this
        simp at this
        omega
  · intro j y d hy hd
    rcases Nat.lt_or_ge j k with hj | hj
    · rw [List.getElem?_append_left (by omega)] at hd
      exact far ((h.each j y d hy hd).keep k1)
    · have hj2 : j = k := by have := lt_of_at hd; simp at this; omega
      subst hj2
      rw [List.getElem?_append_right (by omega), hcs, Nat.sub_self] at hd
      obtain rfl : (A, c) = d := by simpa using hd
      rw [hx] at hy
      obtain rfl := Option.some.inj hy
      exact far (ho.base (by omega))
  · intro i j c1 d1 hij hc hd x1 y1 b hb hb'
    have hjl : j < k + 1 := by have := lt_of_at hd; simp at this; omega
    rw [List.getElem?_append_left (by omega)] at hc
    rcases Nat.lt_or_ge j k with hj | hj
    · rw [List.getElem?_append_left (by omega)] at hd
      exact h.apart i j c1 d1 hij hc hd x1 y1 b hb hb'
    · have hj2 : j = k := by omega
      subst hj2
      rw [List.getElem?_append_right (by omega), hcs, Nat.sub_self] at hd
      obtain rfl : (A, c) = d1 := by simpa using hd
      have hxi : l[i]? = some (l[i]'(by have := lt_of_at hx; omega)) := List.getElem?_eq_getElem _
      have h1 := (World.ownsRow.lt (h.each i _ c1 hxi hc) b ((ownBlock_len _ _ _ _).trans hb)).2
      have h2 := (World.ownsRow.lt ho b ((ownBlock_len _ _ _ _).trans hb')).1
      omega
theorem ClT.ter {W0 w : World} {lo g n cap : Nat} {l : List Ter} {cs : List (Option Addr × Nat)} {ys : List Value} (h : ClT W0 w lo g n cap l cs ys) (hl : l.length = n) (hc : cs.length = n) : TerB w lo w.heap.size g n cap l cs ys where
  row := h.row
  here := fun j x c hx hcj => by
    obtain ⟨d, h1, h2, _⟩ := h.here j x hx
    rw [← h2 c hcj]
    exact h1
  each := fun j x c hx hcj => (h.each j x c hx hcj).base (by have := (World.ownsRow.lt h.row g rfl).1; omega)
  apart := fun i j c d hij hi hj x y k h1 h2 => by
    rcases Nat.lt_or_ge i j with e | e
    · exact h.apart i j c d e hi hj x y k h1 h2
    · exact h.apart j i d c (by omega) hj hi y x k h2 h1
  off := fun j c x k hcj hk => by
    have hj := lt_of_at hcj
    have hx : l[j]? = some (l[j]'(by omega)) := List.getElem?_eq_getElem _
    have := World.ownsRow.lt (h.each j _ c hx hcj) k ((ownBlock_len _ _ _ _).trans hk)
    omega
  lt := hl
  lc := hc
  up := (World.ownsRow.lt h.row g rfl).2
theorem live7_set0 {W : World} {b : Nat} {v0 v1 v2 v3 v4 v5 v6 u : Value} (h : Live7 W b v0 v1 v2 v3 v4 v5 v6) : Live7 (W.setCell ⟨b, 0, none⟩ u) b u v1 v2 v3 v4 v5 v6 := by
  obtain ⟨⟨p0, q0⟩, ⟨p1, q1⟩, ⟨p2, q2⟩, ⟨p3, q3⟩, ⟨p4, q4⟩, ⟨p5, q5⟩, ⟨p6, q6⟩⟩ := h
  exact ⟨⟨by simp [go_sem, p0], by simp [go_sem, q0]⟩, ⟨by simp [go_sem, p1], by simp [go_sem, q1]⟩, ⟨by simp [go_sem, p2], by simp [go_sem, q2]⟩, ⟨by simp [go_sem, p3], by simp [go_sem, q3]⟩, ⟨by simp [go_sem, p4], by simp [go_sem, q4]⟩, ⟨by simp [go_sem, p5], by simp [go_sem, q5]⟩, ⟨by simp [go_sem, p6], by simp [go_sem, q6]⟩⟩
theorem live7_set1 {W : World} {b : Nat} {v0 v1 v2 v3 v4 v5 v6 u : Value} (h : Live7 W b v0 v1 v2 v3 v4 v5 v6) : Live7 (W.setCell ⟨b, 1, none⟩ u) b v0 u v2 v3 v4 v5 v6 := by
  obtain ⟨⟨p0, q0⟩, ⟨p1, q1⟩, ⟨p2, q2⟩, ⟨p3, q3⟩, ⟨p4, q4⟩, ⟨p5, q5⟩, ⟨p6, q6⟩⟩ := h
  exact ⟨⟨by simp [go_sem, p0], by simp [go_sem, q0]⟩, ⟨by simp [go_sem, p1], by simp [go_sem, q1]⟩, ⟨by simp [go_sem, p2], by simp [go_sem, q2]⟩, ⟨by simp [go_sem, p3], by simp [go_sem, q3]⟩, ⟨by simp [go_sem, p4], by simp [go_sem, q4]⟩, ⟨by simp [go_sem, p5], by simp [go_sem, q5]⟩, ⟨by simp [go_sem, p6], by simp [go_sem, q6]⟩⟩
theorem rowB_base {w : World} {base b sz n : Nat} {e : TypeId} {v : Value} {xs : List Value} (h : w.ownsRow base e sz v n xs) (hb : b ≤ base) : w.ownsRow b e sz v n xs := by
  obtain ⟨h0, h1⟩ := h
  rcases h1 with h1 | ⟨g, cap, cur, h2, h3, h4⟩
  · exact ⟨h0, .inl h1⟩
  · exact ⟨h0, .inr ⟨g, cap, cur, h2, Nat.le_trans hb h3, h4⟩⟩
theorem TerB.far {w : World} {lo hi g n cap : Nat} {l : List Ter} {cs : List (Option Addr × Nat)} {ys : List Value} (h : TerB w lo hi g n cap l cs ys) {b j : Nat} (hb : b < lo) (u : Value) : TerB (w.setCell ⟨b, j, none⟩ u) lo hi g n cap l cs ys :=
  ⟨ownRow_far h.row hb u, h.here, fun i x c hx hc => (h.each i x c hx hc).far ((h.each i x c hx hc).not (by omega)) u, h.apart, h.off, h.lt, h.lc, h.up⟩
theorem TerB.base {w : World} {lo lo' hi g n cap : Nat} {l : List Ter} {cs : List (Option Addr × Nat)} {ys : List Value} (h : TerB w lo hi g n cap l cs ys) (hb : lo' ≤ lo) : TerB w lo' hi g n cap l cs ys :=
  ⟨rowB_base h.row hb, h.here, fun i x c hx hc => (h.each i x c hx hc).base hb, h.apart, h.off, h.lt, h.lc, h.up⟩
theorem KndB.far {w : World} {lo hi g n cap : Nat} {m : List Knd} {zs : List Value} (h : KndB w lo hi g n cap m zs) {b j : Nat} (hb : b < lo) (u : Value) : KndB (w.setCell ⟨b, j, none⟩ u) lo hi g n cap m zs :=
  ⟨ownRow_far h.row hb u, h.here, h.lk, h.up⟩
theorem KndB.top {w : World} {lo hi hi' g n cap : Nat} {m : List Knd} {zs : List Value} (h : KndB w lo hi g n cap m zs) (hh : hi = hi') : KndB w lo hi' g n cap m zs := hh ▸ h
theorem live7_off {W : World} {b b2 j : Nat} {v0 v1 v2 v3 v4 v5 v6 u : Value} (h : Live7 W b v0 v1 v2 v3 v4 v5 v6) (hb : b ≠ b2) : Live7 (W.setCell ⟨b2, j, none⟩ u) b v0 v1 v2 v3 v4 v5 v6 := by
  obtain ⟨⟨p0, q0⟩, ⟨p1, q1⟩, ⟨p2, q2⟩, ⟨p3, q3⟩, ⟨p4, q4⟩, ⟨p5, q5⟩, ⟨p6, q6⟩⟩ := h
  have ne : ∀ z : Nat, (W.setCell ⟨b2, j, none⟩ u).cell? ⟨b, z, none⟩ = W.cell? ⟨b, z, none⟩ := fun z => World.cell?_setCell_other _ _ _ _ (fun e => by simp only [Addr.mk.injEq] at e; omega)
  exact ⟨⟨(ne 0).trans p0, by simpa [go_sem] using q0⟩, ⟨(ne 1).trans p1, by simpa [go_sem] using q1⟩, ⟨(ne 2).trans p2, by simpa [go_sem] using q2⟩, ⟨(ne 3).trans p3, by simpa [go_sem] using q3⟩, ⟨(ne 4).trans p4, by simpa [go_sem] using q4⟩, ⟨(ne 5).trans p5, by simpa [go_sem] using q5⟩, ⟨(ne 6).trans p6, by simpa [go_sem] using q6⟩⟩

set_option maxRecDepth 100000 in
set_option maxHeartbeats 4000000 in
theorem copyRules_any (gt ot ct gk ok ck nt nk : Nat) (l : List Ter) (m : List Knd) (a b c d e : Int) (w : World) (hR : RulAt w (some ⟨gt, ot, none⟩) (some ⟨gk, ok, none⟩) nt nk l m) (h1 : 0 < nt) (h2 : 0 < nk) (hcost : ∀ x ∈ l, 0 < x.cost.length) (n1 : nt ≤ 6) :
    Calls Tryz.prog 20 #[rv (.slice (some ⟨gt, ot, none⟩) nt ct) (.slice (some ⟨gk, ok, none⟩) nk ck) a b c d e] w fun e' w' => ∃ (mid g1 g2 c1 c2 : Nat) (cs : List (Option Addr × Nat)) (ys zs : List Value), e' = .returned (rv (.slice (some ⟨g1, 0, none⟩) nt c1) (.slice (some ⟨g2, 0, none⟩) nk c2) a b c d e) ∧ TerB w' w.heap.size mid g1 nt c1 l cs ys ∧ KndB w' mid w'.heap.size g2 nk c2 m zs ∧ w.heap.size ≤ mid ∧ mid ≤ w'.heap.size ∧ Kp w w' := by
  have k0 : Kp w ((w.alloc (.cells #[.slice (some ⟨gt, ot, none⟩) nt ct, .slice (some ⟨gk, ok, none⟩) nk ck, .int .i64 a, .int .i64 b, .int .i64 c, .int .i64 d, .int .i64 e] 35)).alloc (.cells #[.slice none 0 0, .slice none 0 0, .int .i64 0, .int .i64 0, .int .i64 0, .int .i64 0, .int .i64 0] 35)) := ((Kp.refl w).alloc _).alloc _
  have CT := Lib.hid (cloneT_any gt ot nt ct l _ (hR.rt.keep k0) hR.bt h1)
  have CK := Lib.hid (fun w' (k : Kp w w') => cloneK_any gk ok nk ck m w' (hR.rk.keep k) hR.bk h2)
  have HTR : Hid (∀ (j : Nat) (x : Ter), l[j]? = some x → ∃ (gc oc cc : Nat), w.cell? ⟨gt, ot + j * 5 + 1, none⟩ = some (.slice (some ⟨gc, oc, none⟩) x.cost.length cc) ∧ RdI w (.slice (some ⟨gc, oc, none⟩) x.cost.length cc) x.cost) := Lib.hid fun j x hx => by
    obtain ⟨g', o', e', hc⟩ := hR.rt.2 h1
    simp only [Option.some.injEq, Addr.mk.injEq, and_true] at e'
    obtain ⟨rfl, rfl⟩ := e'
    obtain ⟨A, cc, ⟨_, a1, _, _, _⟩, hr⟩ := hc j x hx
    have hr2 := hr
    obtain ⟨A', c', e2, hcc⟩ := hr2
    simp only [Value.slice.injEq] at e2
    obtain ⟨gc, oc, e3, _⟩ := hcc (hcost x (List.mem_of_getElem? hx))
    obtain ⟨e4, _, _⟩ := e2
    rw [e3] at e4
    subst e4
    exact ⟨gc, oc, cc, a1, hr⟩
  have HLT := Lib.hid hR.rt.1
  have HBC : Hid (∀ x ∈ l, x.cost.length ≤ 1048576) := Lib.hid fun x hx => (hR.bc x hx).1
  have HPC := Lib.hid hcost
  clear hR hcost
  go_enter Tryz.func20, Tryz.ntmps20
  go_wp2_with fail
  refine CT.out.mono ?_
  rintro e1 w1 ⟨g1, c1, ys, rfl, o1, hin, k1⟩
  have L1 : Live7 w1 w.heap.size (.slice (some ⟨gt, ot, none⟩) nt ct) (.slice (some ⟨gk, ok, none⟩) nk ck) (.int .i64 a) (.int .i64 b) (.int .i64 c) (.int .i64 d) (.int .i64 e) := live7_keep k1 ⟨by simp [go_sem], by simp [go_sem], by simp [go_sem], by simp [go_sem], by simp [go_sem], by simp [go_sem], by simp [go_sem]⟩
  have M1 : Live7 w1 (w.heap.size + 1) (.slice none 0 0) (.slice none 0 0) (.int .i64 0) (.int .i64 0) (.int .i64 0) (.int .i64 0) (.int .i64 0) := live7_keep k1 ⟨by simp [go_sem], by simp [go_sem], by simp [go_sem], by simp [go_sem], by simp [go_sem], by simp [go_sem], by simp [go_sem]⟩
  have K1 : Kp w w1 := k0.trans k1
  have hg1 := World.ownsRow.lt o1 g1 rfl
  have hz0 : ((w.alloc (.cells #[.slice (some ⟨gt, ot, none⟩) nt ct, .slice (some ⟨gk, ok, none⟩) nk ck, .int .i64 a, .int .i64 b, .int .i64 c, .int .i64 d, .int .i64 e] 35)).alloc (.cells #[.slice none 0 0, .slice none 0 0, .int .i64 0, .int .i64 0, .int .i64 0, .int .i64 0, .int .i64 0] 35)).heap.size = w.heap.size + 2 := by simp
  rw [hz0] at hg1 o1
  have HT0 : Hid (ClT w (w1.setCell ⟨w.heap.size, 0, none⟩ (.slice (some ⟨g1, 0, none⟩) nt c1)) (w.heap.size + 2) g1 nt c1 l [] ys) := Lib.hid ⟨ownRow_far o1 (show w.heap.size < w.heap.size + 2 by omega) _, fun j x hx => by
      obtain ⟨d, h3, h4⟩ := hin j x hx
      obtain ⟨gc, oc, cc, h5, h6⟩ := HTR.out j x hx
      have h7 := h4.symm.trans (k0.cell h5)
      simp only [Option.some.injEq, Value.slice.injEq, true_and] at h7
      exact ⟨d, h3, fun c hc => by simp at hc, fun _ => by rw [h7.1, h7.2]; exact h6⟩, fun j x c hx hc => by simp at hc, fun i j c d _ hc => by simp at hc⟩
  have L2 := live7_set0 (u := .slice (some ⟨g1, 0, none⟩) nt c1) L1
  have M2 := live7_off (b2 := w.heap.size) (j := 0) (u := .slice (some ⟨g1, 0, none⟩) nt c1) M1 (by omega)
  have K2 : Kp w (w1.setCell ⟨w.heap.size, 0, none⟩ (.slice (some ⟨g1, 0, none⟩) nt c1)) := K1.setCell (Nat.le_refl _) _
  have hl10 := L1.1
  clear o1 hin k1 k0 hz0 M1 K1
  go_wp2_with fail
  generalize w1.setCell ⟨w.heap.size, 0, none⟩ (.slice (some ⟨g1, 0, none⟩) nt c1) = W2 at *
  clear L1 hl10
  go_loopw [3, 11] (fun _ sq wr => ∃ (q : Nat) (cs : List (Option Addr × Nat)) (ys : List Value), q ≤ nt ∧ sq = .int .i64 q ∧ Hid (cs.length = q) ∧ Hid (ClT w wr (w.heap.size + 2) g1 nt c1 l cs ys) ∧ Live7 wr w.heap.size (.slice (some ⟨g1, 0, none⟩) nt c1) (.slice (some ⟨gk, ok, none⟩) nk ck) (.int .i64 a) (.int .i64 b) (.int .i64 c) (.int .i64 d) (.int .i64 e) ∧ Live7 wr (w.heap.size + 1) (.slice none 0 0) (.slice none 0 0) (.int .i64 0) (.int .i64 0) (.int .i64 0) (.int .i64 0) (.int .i64 0) ∧ Kp w wr) (fun _ sq _ => nt - (intOf sq).toNat)
  case atStart => exact ⟨0, [], ys, by omega, rfl, Lib.hid rfl, HT0, L2, M2, K2⟩
  case round =>
    clear HT0 L2 M2 K2
    obtain ⟨q, cs, ys, hq, rfl, HCS, HT, L, M, kr⟩ := hrel
    by_cases hlt : q < nt
    · have hlt' : (q : Int) < nt := by omega
      obtain ⟨x, hx⟩ : ∃ x, l[q]? = some x := ⟨l[q]'(by have := HLT.out; omega), List.getElem?_eq_getElem _⟩
      obtain ⟨⟨dA, dc⟩, hd, _, hr⟩ := HT.out.here q x hx
      have hr := hr (by have := HCS.out; omega)
      have hpc := HPC.out x (List.mem_of_getElem? hx)
      have hbc := HBC.out x (List.mem_of_getElem? hx)
      obtain ⟨gc, oc, rfl⟩ : ∃ gc oc, dA = some ⟨gc, oc, none⟩ := by
        obtain ⟨A', c', e2, hcc⟩ := hr
        simp only [Value.slice.injEq] at e2
        obtain ⟨gc, oc, e3, _⟩ := hcc hpc
        exact ⟨gc, oc, by rw [e2.1, e3]⟩
      have a1 := (HT.out.row.cellAt (q * 5 + 1) (by omega)).trans hd.2.1
      have hlv := liveN HT.out.row (j := q * 5 + 1) (by omega)
      have HX := Lib.hid hx
      have CC : Hid (∀ w', Kp w w' → Calls Tryz.prog 46 #[.slice (some ⟨gc, oc, none⟩) x.cost.length dc] w' fun e w2 => ∃ g' c', e = .returned (.slice (some ⟨g', 0, none⟩) x.cost.length c') ∧ OwnI w2 w'.heap.size (.slice (some ⟨g', 0, none⟩) x.cost.length c') x.cost ∧ Kp w' w2) := Lib.hid fun w' k => cloneI_any gc oc x.cost.length dc x.cost w' (hr.keep k) rfl hbc hpc
      have HST : Hid (∀ (w1 : World) (A : Option Addr) (c : Nat), Kp wr w1 → OwnI w1 wr.heap.size (.slice A x.cost.length c) x.cost → ClT w (w1.setCell ⟨g1, q * 5 + 1, none⟩ (.slice A x.cost.length c)) (w.heap.size + 2) g1 nt c1 l (cs ++ [(A, c)]) (ys.set (q * 5 + 1) (.slice A x.cost.length c))) := Lib.hid fun w1 A c k o => HT.out.step HCS.out hx k (World.ownsRow.lt HT.out.row g1 rfl).2 o
      have HROW := Lib.hid HT.out.row
      have HCS2 : Hid (∀ p : Option Addr × Nat, (cs ++ [p]).length = q + 1) := Lib.hid fun p => by rw [List.length_append, HCS.out]; rfl
      simp only at a1
      generalize x.cost.length = nq at *
      clear hr hpc hbc hd hx HX HT HCS
      obtain ⟨⟨u5, hu5⟩, hf5⟩ := hlv
      go_upto_region 5 with (fail)
      have s1 : wr.drew.cell? ⟨w.heap.size, 0, none⟩ = some (.slice (some ⟨g1, 0, none⟩) nt c1) ∧ wr.drew.cell? ⟨w.heap.size, 1, none⟩ = some (.slice (some ⟨gk, ok, none⟩) nk ck) ∧ wr.drew.cell? ⟨w.heap.size, 2, none⟩ = some (.int .i64 a) ∧ wr.drew.cell? ⟨w.heap.size, 3, none⟩ = some (.int .i64 b) ∧ wr.drew.cell? ⟨w.heap.size, 4, none⟩ = some (.int .i64 c) ∧ wr.drew.cell? ⟨w.heap.size, 5, none⟩ = some (.int .i64 d) ∧ wr.drew.cell? ⟨w.heap.size, 6, none⟩ = some (.int .i64 e) ∧ Kp w wr.drew := ⟨L.1.1, L.2.1.1, L.2.2.1.1, L.2.2.2.1.1, L.2.2.2.2.1.1, L.2.2.2.2.2.1.1, L.2.2.2.2.2.2.1, kr.drew⟩
      have a2 : wr.drew.cell? ⟨g1, q * 5 + 1, none⟩ = some (.slice (some ⟨gc, oc, none⟩) nq dc) := a1
      have hz5 : wr.drew.heap.size = wr.heap.size := rfl
      have kd5 : Kp wr wr.drew := (Kp.refl wr).drew
      clear a1 hu5 hf5
      refine wp_region_held_drew (S := (fun w' => w'.cell? ⟨w.heap.size, 0, none⟩ = some (.slice (some ⟨g1, 0, none⟩) nt c1) ∧ w'.cell? ⟨w.heap.size, 1, none⟩ = some (.slice (some ⟨gk, ok, none⟩) nk ck) ∧ w'.cell? ⟨w.heap.size, 2, none⟩ = some (.int .i64 a) ∧ w'.cell? ⟨w.heap.size, 3, none⟩ = some (.int .i64 b) ∧ w'.cell? ⟨w.heap.size, 4, none⟩ = some (.int .i64 c) ∧ w'.cell? ⟨w.heap.size, 5, none⟩ = some (.int .i64 d) ∧ w'.cell? ⟨w.heap.size, 6, none⟩ = some (.int .i64 e) ∧ Kp w w')) (by kernel_rfl) ?_ (fun hHeld => ?_)
      · assumption
      generalize wr.drew = V at *
      refine wpAnyH_take (i := 0) (oi := ⟨some 14, _, _, _, _, _⟩) (v := ?_) rfl (by kernel_rfl) (by kernel_rfl) (by kernel_rfl) (fun _ _ _ h => h) (Or.inl ⟨by rfl, ?_⟩) (by assumption) ?_
      rotate_left
      · intro w hSw; (try dsimp only at hSw); go_simp; (all_goals with_reducible rfl)
      try simp only [Act.put, List.setIfInBounds_toArray, List.set_cons_zero, List.set_cons_succ]
      refine wpAnyH_take (i := 1) (oi := ⟨some 15, _, _, _, _, _⟩) (v := ?_) rfl (by kernel_rfl) (by kernel_rfl) (by kernel_rfl) (fun _ _ _ h => h) (Or.inl ⟨by rfl, ?_⟩) (by assumption) ?_
      rotate_left
      · intro w hSw; (try dsimp only at hSw); go_simp; (all_goals with_reducible rfl)
      try simp only [Act.put, List.setIfInBounds_toArray, List.set_cons_zero, List.set_cons_succ]
      refine wpAnyH_take (i := 2) (oi := ⟨some 16, _, _, _, _, _⟩) (v := ?_) rfl (by kernel_rfl) (by kernel_rfl) (by kernel_rfl) (fun _ _ _ h => h) (Or.inl ⟨by rfl, ?_⟩) (by assumption) ?_
      rotate_left
      · intro w hSw; (try dsimp only at hSw); go_simp; (all_goals with_reducible rfl)
      try simp only [Act.put, List.setIfInBounds_toArray, List.set_cons_zero, List.set_cons_succ]
      refine wpAnyH_take (i := 3) (oi := ⟨some 17, _, _, _, _, _⟩) (v := ?_) rfl (by kernel_rfl) (by kernel_rfl) (by kernel_rfl) (fun _ _ _ h => h) (Or.inl ⟨by rfl, ?_⟩) (by assumption) ?_
      rotate_left
      · intro w hSw; (try dsimp only at hSw); go_simp; (all_goals with_reducible rfl)
      try simp only [Act.put, List.setIfInBounds_toArray, List.set_cons_zero, List.set_cons_succ]
      refine wpAnyH_take (i := 4) (oi := ⟨some 18, _, _, _, _, _⟩) (v := ?_) rfl (by kernel_rfl) (by kernel_rfl) (by kernel_rfl) (fun _ _ _ h => h) (Or.inl ⟨by rfl, ?_⟩) (by assumption) ?_
      rotate_left
      · intro w hSw; (try dsimp only at hSw); go_simp; (all_goals with_reducible rfl)
      try simp only [Act.put, List.setIfInBounds_toArray, List.set_cons_zero, List.set_cons_succ]
      refine wpAnyH_take (i := 5) (oi := ⟨some 19, _, _, _, _, _⟩) (v := ?_) rfl (by kernel_rfl) (by kernel_rfl) (by kernel_rfl) (fun _ _ _ h => h) (Or.inl ⟨by rfl, ?_⟩) (by assumption) ?_
      rotate_left
      · intro w hSw; (try dsimp only at hSw); go_simp; (all_goals with_reducible rfl)
      try simp only [Act.put, List.setIfInBounds_toArray, List.set_cons_zero, List.set_cons_succ]
      refine wpAnyH_take (i := 6) (oi := ⟨some 20, _, _, _, _, _⟩) (v := ?_) rfl (by kernel_rfl) (by kernel_rfl) (by kernel_rfl) (fun _ _ _ h => h) (Or.inl ⟨by rfl, ?_⟩) (by assumption) ?_
      rotate_left
      · intro w hSw; (try dsimp only at hSw); go_simp; (all_goals with_reducible rfl)
      try simp only [Act.put, List.setIfInBounds_toArray, List.set_cons_zero, List.set_cons_succ]
      refine wpAnyH_take (i := 7) (oi := ⟨some 21, _, _, _, _, _⟩) (v := ?_) rfl (by kernel_rfl) (by kernel_rfl) (by kernel_rfl) (fun _ _ _ h => h) (Or.inl ⟨by rfl, ?_⟩) (by assumption) ?_
      rotate_left
      · intro w hSw; (try dsimp only at hSw); go_simp; (all_goals with_reducible rfl)
      try simp only [Act.put, List.setIfInBounds_toArray, List.set_cons_zero, List.set_cons_succ]
      refine wpAnyH_ready (rs := [8]) (by kernel_rfl) (by simp) ?_
      refine (AllReadyH.cons (o := ⟨some 22, _, _, _, _, _⟩) rfl (fun K hK => ?_) AllReadyH.nil)
      go_simp
      go_wp2_with fail
      refine hK.out _ _ ?_ (fun hHeld => ?_)
      · (try dsimp only); (first | assumption)
      clear hK K
      try simp only [Act.put, List.setIfInBounds_toArray, List.set_cons_zero, List.set_cons_succ]
      refine wpAnyH_ready (rs := [9]) (by kernel_rfl) (by simp) ?_
      refine (AllReadyH.cons (o := ⟨some 23, _, _, _, _, _⟩) rfl (fun K hK => ?_) AllReadyH.nil)
      go_simp
      refine (CC.out _ hHeld.2.2.2.2.2.2.2).mono ?_
      rintro e2 w2 ⟨g', c', rfl, o2, k2⟩
      have hS2 : w2.cell? ⟨w.heap.size, 0, none⟩ = some (.slice (some ⟨g1, 0, none⟩) nt c1) ∧ w2.cell? ⟨w.heap.size, 1, none⟩ = some (.slice (some ⟨gk, ok, none⟩) nk ck) ∧ w2.cell? ⟨w.heap.size, 2, none⟩ = some (.int .i64 a) ∧ w2.cell? ⟨w.heap.size, 3, none⟩ = some (.int .i64 b) ∧ w2.cell? ⟨w.heap.size, 4, none⟩ = some (.int .i64 c) ∧ w2.cell? ⟨w.heap.size, 5, none⟩ = some (.int .i64 d) ∧ w2.cell? ⟨w.heap.size, 6, none⟩ = some (.int .i64 e) ∧ Kp w w2 := ⟨k2.cell hHeld.1, k2.cell hHeld.2.1, k2.cell hHeld.2.2.1, k2.cell hHeld.2.2.2.1, k2.cell hHeld.2.2.2.2.1, k2.cell hHeld.2.2.2.2.2.1, k2.cell hHeld.2.2.2.2.2.2.1, hHeld.2.2.2.2.2.2.2.trans k2⟩
      have O2 := Lib.hid o2
      have K2 := kd5.trans k2
      have L2 := live7_keep K2 L
      have M2 := live7_keep K2 M
      obtain ⟨⟨u6, hu6⟩, hf6⟩ := liveN (ownsRow_keep HROW.out K2) (j := q * 5 + 1) (by omega)
      clear o2
      go_wp2_with fail
      refine hK.out _ _ ?_ (fun hHeld => ?_)
      · (try dsimp only); (first | assumption)
      clear hK K
      try simp only [Act.put, List.setIfInBounds_toArray, List.set_cons_zero, List.set_cons_succ]
      refine wpAnyH_take (i := 10) (oi := ⟨some 24, _, _, _, _, _⟩) (v := ?_) rfl (by kernel_rfl) (by kernel_rfl) (by kernel_rfl) (fun _ _ _ h => h) (Or.inl ⟨by rfl, ?_⟩) (by assumption) ?_
      rotate_left
      · intro w hSw; (try dsimp only at hSw); go_simp; (all_goals with_reducible rfl)
      try simp only [Act.put, List.setIfInBounds_toArray, List.set_cons_zero, List.set_cons_succ]
      refine wpAnyH_take (i := 11) (oi := ⟨some 25, _, _, _, _, _⟩) (v := ?_) rfl (by kernel_rfl) (by kernel_rfl) (by kernel_rfl) (fun _ _ _ h => h) (Or.inl ⟨by rfl, ?_⟩) (by assumption) ?_
      rotate_left
      · intro w hSw; (try dsimp only at hSw); go_simp; (all_goals with_reducible rfl)
      try simp only [Act.put, List.setIfInBounds_toArray, List.set_cons_zero, List.set_cons_succ]
      refine wpAnyH_ready (rs := [12]) (by kernel_rfl) (by simp) ?_
      refine (AllReadyH.cons (o := ⟨none, _, _, _, _, _⟩) rfl (fun K hK => ?_) AllReadyH.nil)
      go_simp
      go_wp2_with fail
      have hS3 : (w2.setCell ⟨g1, q * 5 + 1, none⟩ (.slice (some ⟨g', 0, none⟩) nq c')).cell? ⟨w.heap.size, 0, none⟩ = some (.slice (some ⟨g1, 0, none⟩) nt c1) ∧ (w2.setCell ⟨g1, q * 5 + 1, none⟩ (.slice (some ⟨g', 0, none⟩) nq c')).cell? ⟨w.heap.size, 1, none⟩ = some (.slice (some ⟨gk, ok, none⟩) nk ck) ∧ (w2.setCell ⟨g1, q * 5 + 1, none⟩ (.slice (some ⟨g', 0, none⟩) nq c')).cell? ⟨w.heap.size, 2, none⟩ = some (.int .i64 a) ∧ (w2.setCell ⟨g1, q * 5 + 1, none⟩ (.slice (some ⟨g', 0, none⟩) nq c')).cell? ⟨w.heap.size, 3, none⟩ = some (.int .i64 b) ∧ (w2.setCell ⟨g1, q * 5 + 1, none⟩ (.slice (some ⟨g', 0, none⟩) nq c')).cell? ⟨w.heap.size, 4, none⟩ = some (.int .i64 c) ∧ (w2.setCell ⟨g1, q * 5 + 1, none⟩ (.slice (some ⟨g', 0, none⟩) nq c')).cell? ⟨w.heap.size, 5, none⟩ = some (.int .i64 d) ∧ (w2.setCell ⟨g1, q * 5 + 1, none⟩ (.slice (some ⟨g', 0, none⟩) nq c')).cell? ⟨w.heap.size, 6, none⟩ = some (.int .i64 e) ∧ Kp w (w2.setCell ⟨g1, q * 5 + 1, none⟩ (.slice (some ⟨g', 0, none⟩) nq c')) := ⟨by simp [go_sem, *], by simp [go_sem, *], by simp [go_sem, *], by simp [go_sem, *], by simp [go_sem, *], by simp [go_sem, *], by simp [go_sem, *], hHeld.2.2.2.2.2.2.2.setCell (show w.heap.size ≤ g1 by omega) _⟩
      refine hK.out _ _ ?_ (fun hHeld => ?_)
      · (try dsimp only); (first | assumption)
      clear hK K
      try simp only [Act.put, List.setIfInBounds_toArray, List.set_cons_zero, List.set_cons_succ]
      refine wpAnyH_done (by kernel_rfl) ?_ _
      go_wp2_with fail
      go_roundw
      case rel => exact ⟨q + 1, cs ++ [(some ⟨g', 0, none⟩, c')], _, by omega, by go_num, Lib.hid (HCS2.out _), Lib.hid (HST.out w2 _ c' K2 (by rw [← hz5]; exact O2.out)), live7_off L2 (by omega), live7_off M2 (by omega), hHeld.2.2.2.2.2.2.2⟩
      case measure => simp [intOf]; omega
    · obtain rfl : q = nt := by omega
      have HTF := Lib.hid (HT.out.ter HLT.out HCS.out)
      have hzr := kr.size
      clear HT HCS
      go_wp2_with fail
      refine (CK.out _ kr).mono ?_
      rintro e3 w3 ⟨g2, c2, zs, rfl, o3, k3⟩
      have L3 := live7_keep k3 L
      have M3 := live7_keep k3 M
      have HT3 := Lib.hid (HTF.out.keep k3)
      have O3 := Lib.hid o3
      have K3 : Kp w w3 := kr.trans k3
      have hz3 := k3.size
      have hzM := cell_lt M.1.1
      clear o3 L M HTF
      go_wp2_with fail
      refine bodyPost_ret (v := rv (.slice (some ⟨g1, 0, none⟩) q c1) (.slice (some ⟨g2, 0, none⟩) nk c2) a b c d e) (by simp [results, Tryz.results20, go_sem, *]) rfl ⟨wr.heap.size, g1, g2, c1, c2, cs, ys, zs, rfl, ?_, ?_, by omega, by simp; omega, ?_⟩
      · exact (((((((((HT3.out.far (by omega) _).far (by omega) _).far (by omega) _).far (by omega) _).far (by omega) _).far (by omega) _).far (by omega) _).far (by omega) _).base (by omega))
      · exact ((((((((O3.out.far (by omega) _).far (by omega) _).far (by omega) _).far (by omega) _).far (by omega) _).far (by omega) _).far (by omega) _).far (by omega) _).top (by simp)
      · exact (((((((K3.setCell (Nat.le_refl _) _).setCell (show w.heap.size ≤ w.heap.size + 1 by omega) _).setCell (show w.heap.size ≤ w.heap.size + 1 by omega) _).setCell (show w.heap.size ≤ w.heap.size + 1 by omega) _).setCell (show w.heap.size ≤ w.heap.size + 1 by omega) _).setCell (show w.heap.size ≤ w.heap.size + 1 by omega) _).setCell (show w.heap.size ≤ w.heap.size + 1 by omega) _).setCell (show w.heap.size ≤ w.heap.size + 1 by omega) _

end Go.Proofs.YtmolpkjdjkhnpaaGreatDoor
