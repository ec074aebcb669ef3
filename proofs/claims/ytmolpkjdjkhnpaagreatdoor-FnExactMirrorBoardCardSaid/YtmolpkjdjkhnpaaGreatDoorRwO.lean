/-
  The reference's copy of rules: new rows of terrains and kinds, new costs. Nothing that was there is changed.
-/
import Derived.Test.YtmolpkjdjkhnpaaGreatDoorCpR
import Derived.Maps.AppendAt
namespace Go.Proofs.YtmolpkjdjkhnpaaGreatDoor
open Go.RowKit

set_option maxRecDepth 100000 in
set_option maxHeartbeats 4000000 in
theorem l1Own_any (g off n c : Nat) (l : List Int) (w : World) (h : RdI w (.slice (some ⟨g, off, none⟩) n c) l) (hl : l.length = n) (hn : n ≤ 1048576) (h0 : 0 < n) :
    Calls Tryz.prog 33 #[.slice (some ⟨g, off, none⟩) n c] w fun e w' => ∃ g' c', e = .returned (.slice (some ⟨g', 0, none⟩) n c') ∧ OwnI w' w.heap.size (.slice (some ⟨g', 0, none⟩) n c') l ∧ Kp w w' := by
  obtain ⟨j0, hj0, hz0, hs0, hb0⟩ := info_parts infoInt
  have kA : Kp w (w.alloc (.cells #[] 3)) := (Kp.refl w).alloc _
  have HC := Lib.hid (rdI_one (h.keep kA) hl)
  have HL := Lib.hid hl
  clear h hl
  have own0 : Hid ((w.alloc (.cells #[] 3)).ownsRow w.heap.size 3 1 (.slice (some ⟨w.heap.size, 0, none⟩) 0 0) 0 []) := Lib.hid (World.ownsRow_lit w _ 0 (Nat.le_refl _) (by decide) rfl)
  clear kA
  go_enter Tryz.func33, Tryz.ntmps33
  go_wp2_with (at_builtin; (refine wpList_append_own _ rfl (.tmp 3) (.tmp 4) 26 rfl w.heap.size 3 j0 (.int .i64 0) 1 8 Tryz.underlying26 hj0 hz0 hs0 hb0 rfl (by decide) _ 0 [] rfl own0.out ⟨g, off, none⟩ n c (cellsI l) rfl (by rw [cellsI_lenB, HL.out, Nat.mul_one]) HC.out (cellsI_one l) (by simp only [maxLen]; omega) (by omega) (by simp) ?_; intro v' w3 hown2 hgrow2 hnil2; clear hnil2; have K3 : Kp w w3 := ((Kp.refl w).alloc _).grown hgrow2 (fun k e => Nat.le_of_eq (Option.some.inj e)); have O3 : Hid (w3.ownsRow w.heap.size 3 1 v' n (cellsI l)) := Lib.hid (by rw [Nat.zero_add, List.nil_append] at hown2; exact hown2); clear hown2 hgrow2))
  go_ret
  obtain ⟨g', c', rfl⟩ := ownsRow_blk O3.out h0
  exact ⟨g', c', rfl, by unfold OwnI; rw [HL.out]; exact O3.out, K3⟩

theorem live7_low {n : Nat} {W W' : World} {b : Nat} {v0 v1 v2 v3 v4 v5 v6 : Value} (k : Below n W W') (hb : b < n) (h : Live7 W b v0 v1 v2 v3 v4 v5 v6) : Live7 W' b v0 v1 v2 v3 v4 v5 v6 :=
  ⟨⟨(k.cell (p := ⟨b, 0, none⟩) hb).trans h.1.1, (k.frozen (p := ⟨b, 0, none⟩) hb).trans h.1.2⟩, ⟨(k.cell (p := ⟨b, 1, none⟩) hb).trans h.2.1.1, (k.frozen (p := ⟨b, 1, none⟩) hb).trans h.2.1.2⟩, ⟨(k.cell (p := ⟨b, 2, none⟩) hb).trans h.2.2.1.1, (k.frozen (p := ⟨b, 2, none⟩) hb).trans h.2.2.1.2⟩, ⟨(k.cell (p := ⟨b, 3, none⟩) hb).trans h.2.2.2.1.1, (k.frozen (p := ⟨b, 3, none⟩) hb).trans h.2.2.2.1.2⟩, ⟨(k.cell (p := ⟨b, 4, none⟩) hb).trans h.2.2.2.2.1.1, (k.frozen (p := ⟨b, 4, none⟩) hb).trans h.2.2.2.2.1.2⟩, ⟨(k.cell (p := ⟨b, 5, none⟩) hb).trans h.2.2.2.2.2.1.1, (k.frozen (p := ⟨b, 5, none⟩) hb).trans h.2.2.2.2.2.1.2⟩, ⟨(k.cell (p := ⟨b, 6, none⟩) hb).trans h.2.2.2.2.2.2.1, (k.frozen (p := ⟨b, 6, none⟩) hb).trans h.2.2.2.2.2.2.2⟩⟩
theorem five_new (W : World) (v0 v1 v2 v3 v4 : Value) (T : TypeId) : ∀ (j : Nat) (u : Value), [v0, v1, v2, v3, v4][j]? = some u → (W.alloc (.cells #[v0, v1, v2, v3, v4] T)).cell? ((⟨W.heap.size, 0, none⟩ : Addr).add j) = some u := fun j u h => by
  rw [add_litB, Nat.zero_add]
  match j, h with
  | 0, h => obtain rfl : v0 = u := by simpa using h
            simp [go_sem]
  | 1, h => obtain rfl : v1 = u := by simpa using h
            simp [go_sem]
  | 2, h => obtain rfl : v2 = u := by simpa using h
            simp [go_sem]
  | 3, h => obtain rfl : v3 = u := by simpa using h
            simp [go_sem]
  | 4, h => obtain rfl : v4 = u := by simpa using h
            simp [go_sem]
  | _ + 5, h => simp at h
/-- The first q of a list of terrains, in a row that grows, their costs in blocks of their own. -/
structure RdO (w : World) (lo : Nat) (v : Value) (l : List Ter) (q : Nat) (ys : List Value) : Prop where
  row : w.ownsRow lo 65 5 v q ys
  here : ∀ (j : Nat) (x : Ter), j < q → l[j]? = some x → ∃ d : Option Addr × Nat, TerIn ys j x d ∧ OwnI w lo (.slice d.1 x.cost.length d.2) x.cost ∧ (∀ b, (Value.slice d.1 x.cost.length d.2).ownBlock = some b → v.ownBlock ≠ some b)
theorem RdO.keep {w w' : World} {lo q : Nat} {v : Value} {l : List Ter} {ys : List Value} (h : RdO w lo v l q ys) (k : Kp w w') : RdO w' lo v l q ys :=
  ⟨ownsRow_keep h.row k, fun j x hj hx => by
    obtain ⟨d, h1, h2, h3⟩ := h.here j x hj hx
    exact ⟨d, h1, h2.keep k, h3⟩⟩
theorem ownsRow_offB {w : World} {base sz n : Nat} {e : TypeId} {v : Value} {xs : List Value} (h : w.ownsRow base e sz v n xs) {b j : Nat} (hb : v.ownBlock ≠ some b) (u : Value) : (w.setCell ⟨b, j, none⟩ u).ownsRow base e sz v n xs := by
  obtain ⟨h0, h1⟩ := h
  rcases h1 with h1 | ⟨g, cap, cur, rfl, h3, h4, h5⟩
  · exact ⟨h0, .inl h1⟩
  · refine ⟨h0, .inr ⟨g, cap, cur, rfl, h3, ?_, h5⟩⟩
    rw [Below.heap_setCell _ _ _ _ (fun e => hb (by rw [Value.ownBlock]; exact congrArg some e))]
    exact h4
theorem RdO.off {w : World} {lo q : Nat} {v : Value} {l : List Ter} {ys : List Value} (h : RdO w lo v l q ys) {b j : Nat} (hb : b < lo ∨ w.heap.size ≤ b) (u : Value) : RdO (w.setCell ⟨b, j, none⟩ u) lo v l q ys := by
  have no : ∀ {sz n : Nat} {e : TypeId} {v' : Value} {xs : List Value}, w.ownsRow lo e sz v' n xs → v'.ownBlock ≠ some b := fun o e => by
    have := World.ownsRow.lt o b e
    omega
  exact ⟨ownsRow_offB h.row (no h.row) u, fun j' x hj hx => by
    obtain ⟨d, h1, h2, h3⟩ := h.here j' x hj hx
    exact ⟨d, h1, ownsRow_offB h2 (no h2) u, h3⟩⟩

/-- One terrain more. -/
theorem RdO.more {w w1 W w3 : World} {lo q : Nat} {v v' : Value} {l : List Ter} {ys : List Value} {nm : ByteArray} {cost : List Int} {sh hg : Int} {bl : Bool} {g' c' nq : Nat} (h : RdO w lo v l q ys) (hx : l[q]? = some ⟨nm, cost, sh, hg, bl⟩) (hnq : cost.length = nq)
    (k1 : Kp w w1) (ho : OwnI w1 w.heap.size (.slice (some ⟨g', 0, none⟩) nq c') cost) (hlo : lo ≤ w.heap.size) (hW : ∀ {sz n : Nat} {e : TypeId} {v' : Value} {xs : List Value}, w1.ownsRow lo e sz v' n xs → (∀ b, v'.ownBlock = some b → b ≠ w.heap.size) → W.ownsRow lo e sz v' n xs) (hne : g' ≠ w.heap.size) (hsz : w1.heap.size ≤ W.heap.size)
    (hr : w3.ownsRow lo 65 5 v' (q + 1) (ys ++ [.string nm, .slice (some ⟨g', 0, none⟩) nq c', .int .i64 sh, .int .i64 hg, .bool bl])) (gr : W.grownBy w3 v.ownBlock) (hat : v'.ownBlock = v.ownBlock ∨ v'.ownBlock = some W.heap.size) :
    RdO w3 lo v' l (q + 1) (ys ++ [.string nm, .slice (some ⟨g', 0, none⟩) nq c', .int .i64 sh, .int .i64 hg, .bool bl]) := by
  have hyl : ys.length = q * 5 := h.row.1
  have hvl : ∀ b, v.ownBlock = some b → b < w.heap.size := fun b e => (World.ownsRow.lt h.row b e).2
  refine ⟨hr, fun j x hj hxj => ?_⟩
  rcases Nat.lt_or_ge j q with hjq | hjq
  · obtain ⟨d, ⟨d0, d1, d2, d3, d4⟩, h2, h3⟩ := h.here j x hjq hxj
    have lt0 : ∀ b, (Value.slice d.1 x.cost.length d.2).ownBlock = some b → b < w.heap.size := fun b e => (World.ownsRow.lt h2 b e).2
    have o1 : OwnI W lo (.slice d.1 x.cost.length d.2) x.cost := hW (h2.keep k1) fun b e => by have := lt0 b e; omega
    refine ⟨d, ⟨?_, ?_, ?_, ?_, ?_⟩, World.ownsRow.kept o1 gr ?_, fun b e e2 => ?_⟩
    · rw [List.getElem?_append_left (by omega)]; exact d0
    · rw [List.getElem?_append_left (by omega)]; exact d1
    · rw [List.getElem?_append_left (by omega)]; exact d2
    · rw [List.getElem?_append_left (by omega)]; exact d3
    · rw [List.getElem?_append_left (by omega)]; exact d4
    · cases hb : (Value.slice d.1 x.cost.length d.2).ownBlock
      · exact .inl rfl
      · rename_i b
        exact .inr fun e3 => h3 b hb e3.symm
    · rcases hat with e4 | e4
      · exact h3 b e (e4.symm.trans e2)
      · rw [e4] at e2
        have := lt0 b e
        have := k1.size
        have := Option.some.inj e2
        omega
  · obtain rfl : j = q := by omega
    rw [hx] at hxj
    obtain rfl := Option.some.inj hxj
    have lt1 := World.ownsRow.lt ho g' rfl
    have o1 : OwnI W lo (.slice (some ⟨g', 0, none⟩) nq c') cost := hW (ho.base hlo) fun b e => by
      obtain rfl : g' = b := Option.some.inj e
      exact hne
    refine ⟨(some ⟨g', 0, none⟩, c'), ⟨?_, ?_, ?_, ?_, ?_⟩, ?_, fun b e e2 => ?_⟩
    · rw [List.getElem?_append_right (by omega), hyl, Nat.sub_self]; rfl
    · rw [List.getElem?_append_right (by omega), hyl, show j * 5 + 1 - j * 5 = 1 by omega]
      simp only [hnq]
      rfl
    · rw [List.getElem?_append_right (by omega), hyl, show j * 5 + 2 - j * 5 = 2 by omega]; rfl
    · rw [List.getElem?_append_right (by omega), hyl, show j * 5 + 3 - j * 5 = 3 by omega]; rfl
    · rw [List.getElem?_append_right (by omega), hyl, show j * 5 + 4 - j * 5 = 4 by omega]; rfl
    · simp only [hnq]
      refine World.ownsRow.kept o1 gr (.inr fun e3 => ?_)
      have := hvl g' e3.symm
      omega
    · obtain rfl : g' = b := Option.some.inj e
      rcases hat with e4 | e4
      · have := hvl g' (e4.symm.trans e2)
        omega
      · rw [e4] at e2
        have := Option.some.inj e2
        omega
theorem RdO.rd {w : World} {lo n : Nat} {v : Value} {l : List Ter} {ys : List Value} (h : RdO w lo v l n ys) (hl : l.length = n) (h0 : 0 < n) : ∃ g cap, v = .slice (some ⟨g, 0, none⟩) n cap ∧ RdT w (some ⟨g, 0, none⟩) n l := by
  obtain ⟨g, cap, rfl⟩ := ownsRow_blk h.row h0
  refine ⟨g, cap, rfl, hl, fun _ => ⟨g, 0, rfl, fun i x hx => ?_⟩⟩
  have hi := lt_of_at hx
  obtain ⟨d, ⟨d0, d1, d2, d3, d4⟩, h2, _⟩ := h.here i x (by omega) hx
  rw [Nat.zero_add]
  exact ⟨d.1, d.2, ⟨(h.row.cellAt (i * 5) (by omega)).trans d0, (h.row.cellAt (i * 5 + 1) (by omega)).trans d1, (h.row.cellAt (i * 5 + 2) (by omega)).trans d2, (h.row.cellAt (i * 5 + 3) (by omega)).trans d3, (h.row.cellAt (i * 5 + 4) (by omega)).trans d4⟩, h2.rd⟩
theorem RdO.rdS {w : World} {lo n g cap : Nat} {l : List Ter} {ys : List Value} (h : RdO w lo (.slice (some ⟨g, 0, none⟩) n cap) l n ys) (hl : l.length = n) (h0 : 0 < n) : RdT w (some ⟨g, 0, none⟩) n l := by
  obtain ⟨g', cap', e, hr⟩ := h.rd hl h0
  simp only [Value.slice.injEq, Option.some.injEq, Addr.mk.injEq, and_true, true_and] at e
  rw [e.1]
  exact hr

set_option maxRecDepth 100000 in
set_option maxHeartbeats 4000000 in
theorem rOwn_any (gt ot ct gk ok ck nt nk : Nat) (l : List Ter) (m : List Knd) (a b c d e : Int) (w : World) (hR : RulAt w (some ⟨gt, ot, none⟩) (some ⟨gk, ok, none⟩) nt nk l m) (h1 : 0 < nt) (h2 : 0 < nk) (hcost : ∀ x ∈ l, 0 < x.cost.length) (n1 : nt ≤ 6) :
    Calls Tryz.prog 14 #[rv (.slice (some ⟨gt, ot, none⟩) nt ct) (.slice (some ⟨gk, ok, none⟩) nk ck) a b c d e] w fun e' w' => ∃ (g1 g2 c1 c2 : Nat), e' = .returned (rv (.slice (some ⟨g1, 0, none⟩) nt c1) (.slice (some ⟨g2, 0, none⟩) nk c2) a b c d e) ∧ (∃ ys, RdO w' (w.heap.size + 3) (.slice (some ⟨g1, 0, none⟩) nt c1) l nt ys) ∧ (∃ lo zs, w.heap.size + 3 ≤ lo ∧ KndB w' lo (g2 + 1) g2 nk c2 m zs) ∧ Kp w w' := by
  obtain ⟨j0, hj0, hz0, hs0, hb0⟩ := info_parts infoTer
  have HTR : Hid (∀ (j : Nat) (x : Ter), l[j]? = some x → ∃ (gc oc cc : Nat), (w.cell? ⟨gt, ot + j * 5, none⟩ = some (.string x.name) ∧ w.cell? ⟨gt, ot + j * 5 + 1, none⟩ = some (.slice (some ⟨gc, oc, none⟩) x.cost.length cc) ∧ w.cell? ⟨gt, ot + j * 5 + 2, none⟩ = some (.int .i64 x.shift) ∧ w.cell? ⟨gt, ot + j * 5 + 3, none⟩ = some (.int .i64 x.height) ∧ w.cell? ⟨gt, ot + j * 5 + 4, none⟩ = some (.bool x.blocks)) ∧ RdI w (.slice (some ⟨gc, oc, none⟩) x.cost.length cc) x.cost) := Lib.hid fun j x hx => by
    obtain ⟨g', o', e', hc⟩ := hR.rt.2 h1
    simp only [Option.some.injEq, Addr.mk.injEq, and_true] at e'
    obtain ⟨rfl, rfl⟩ := e'
    obtain ⟨A, cc, hcell, hr⟩ := hc j x hx
    have hr2 := hr
    obtain ⟨A', c', e2, hcc⟩ := hr2
    simp only [Value.slice.injEq] at e2
    obtain ⟨gc, oc, e3, _⟩ := hcc (hcost x (List.mem_of_getElem? hx))
    obtain ⟨e4, _, _⟩ := e2
    rw [e3] at e4
    subst e4
    exact ⟨gc, oc, cc, hcell, hr⟩
  have HLT := Lib.hid hR.rt.1
  have HBC : Hid (∀ x ∈ l, x.cost.length ≤ 1048576) := Lib.hid fun x hx => (hR.bc x hx).1
  have HPC := Lib.hid hcost
  have HRK := Lib.hid hR.rk
  have hbk := hR.bk
  have L2 : Live7 (((w.alloc (.cells #[.slice (some ⟨gt, ot, none⟩) nt ct, .slice (some ⟨gk, ok, none⟩) nk ck, .int .i64 a, .int .i64 b, .int .i64 c, .int .i64 d, .int .i64 e] 35)).alloc (.cells #[.slice none 0 0, .slice none 0 0, .int .i64 0, .int .i64 0, .int .i64 0, .int .i64 0, .int .i64 0] 35)).alloc (.cells #[.slice none 0 0, .slice (some ⟨gk, ok, none⟩) nk ck, .int .i64 a, .int .i64 b, .int .i64 c, .int .i64 d, .int .i64 e] 35)) (w.heap.size + 1 + 1) (.slice none 0 0) (.slice (some ⟨gk, ok, none⟩) nk ck) (.int .i64 a) (.int .i64 b) (.int .i64 c) (.int .i64 d) (.int .i64 e) := ⟨by simp [go_sem], by simp [go_sem], by simp [go_sem], by simp [go_sem], by simp [go_sem], by simp [go_sem], by simp [go_sem]⟩
  have M2 : Live7 (((w.alloc (.cells #[.slice (some ⟨gt, ot, none⟩) nt ct, .slice (some ⟨gk, ok, none⟩) nk ck, .int .i64 a, .int .i64 b, .int .i64 c, .int .i64 d, .int .i64 e] 35)).alloc (.cells #[.slice none 0 0, .slice none 0 0, .int .i64 0, .int .i64 0, .int .i64 0, .int .i64 0, .int .i64 0] 35)).alloc (.cells #[.slice none 0 0, .slice (some ⟨gk, ok, none⟩) nk ck, .int .i64 a, .int .i64 b, .int .i64 c, .int .i64 d, .int .i64 e] 35)) (w.heap.size + 1) (.slice none 0 0) (.slice none 0 0) (.int .i64 0) (.int .i64 0) (.int .i64 0) (.int .i64 0) (.int .i64 0) := ⟨by simp [go_sem], by simp [go_sem], by simp [go_sem], by simp [go_sem], by simp [go_sem], by simp [go_sem], by simp [go_sem]⟩
  have K2 : Kp w (((w.alloc (.cells #[.slice (some ⟨gt, ot, none⟩) nt ct, .slice (some ⟨gk, ok, none⟩) nk ck, .int .i64 a, .int .i64 b, .int .i64 c, .int .i64 d, .int .i64 e] 35)).alloc (.cells #[.slice none 0 0, .slice none 0 0, .int .i64 0, .int .i64 0, .int .i64 0, .int .i64 0, .int .i64 0] 35)).alloc (.cells #[.slice none 0 0, .slice (some ⟨gk, ok, none⟩) nk ck, .int .i64 a, .int .i64 b, .int .i64 c, .int .i64 d, .int .i64 e] 35)) := (((Kp.refl w).alloc _).alloc _).alloc _
  have b2 : (((w.alloc (.cells #[.slice (some ⟨gt, ot, none⟩) nt ct, .slice (some ⟨gk, ok, none⟩) nk ck, .int .i64 a, .int .i64 b, .int .i64 c, .int .i64 d, .int .i64 e] 35)).alloc (.cells #[.slice none 0 0, .slice none 0 0, .int .i64 0, .int .i64 0, .int .i64 0, .int .i64 0, .int .i64 0] 35)).alloc (.cells #[.slice none 0 0, .slice (some ⟨gk, ok, none⟩) nk ck, .int .i64 a, .int .i64 b, .int .i64 c, .int .i64 d, .int .i64 e] 35)).cell? ⟨w.heap.size, 1, none⟩ = some (.slice (some ⟨gk, ok, none⟩) nk ck) := by simp [go_sem]
  have hz2 : (((w.alloc (.cells #[.slice (some ⟨gt, ot, none⟩) nt ct, .slice (some ⟨gk, ok, none⟩) nk ck, .int .i64 a, .int .i64 b, .int .i64 c, .int .i64 d, .int .i64 e] 35)).alloc (.cells #[.slice none 0 0, .slice none 0 0, .int .i64 0, .int .i64 0, .int .i64 0, .int .i64 0, .int .i64 0] 35)).alloc (.cells #[.slice none 0 0, .slice (some ⟨gk, ok, none⟩) nk ck, .int .i64 a, .int .i64 b, .int .i64 c, .int .i64 d, .int .i64 e] 35)).heap.size = w.heap.size + 3 := by simp
  have R0 : Hid (RdO (((w.alloc (.cells #[.slice (some ⟨gt, ot, none⟩) nt ct, .slice (some ⟨gk, ok, none⟩) nk ck, .int .i64 a, .int .i64 b, .int .i64 c, .int .i64 d, .int .i64 e] 35)).alloc (.cells #[.slice none 0 0, .slice none 0 0, .int .i64 0, .int .i64 0, .int .i64 0, .int .i64 0, .int .i64 0] 35)).alloc (.cells #[.slice none 0 0, .slice (some ⟨gk, ok, none⟩) nk ck, .int .i64 a, .int .i64 b, .int .i64 c, .int .i64 d, .int .i64 e] 35)) (w.heap.size + 3) (.slice none 0 0) l 0 []) := Lib.hid ⟨World.ownsRow_nil _ _ _ _, fun j x hj => by omega⟩
  clear hR hcost
  go_enter Tryz.func14, Tryz.ntmps14
  go_wp2_with fail
  go_loopw [5, 11] (fun _ sq wr => ∃ (q : Nat) (v : Value) (ys : List Value), q ≤ nt ∧ sq = .int .i64 q ∧ Hid (RdO wr (w.heap.size + 3) v l q ys) ∧ Live7 wr (w.heap.size + 1 + 1) (v) (.slice (some ⟨gk, ok, none⟩) nk ck) (.int .i64 a) (.int .i64 b) (.int .i64 c) (.int .i64 d) (.int .i64 e) ∧ Live7 wr (w.heap.size + 1) (.slice none 0 0) (.slice none 0 0) (.int .i64 0) (.int .i64 0) (.int .i64 0) (.int .i64 0) (.int .i64 0) ∧ wr.cell? ⟨w.heap.size, 1, none⟩ = some (.slice (some ⟨gk, ok, none⟩) nk ck) ∧ Kp w wr ∧ w.heap.size + 3 ≤ wr.heap.size) (fun _ sq _ => nt - (intOf sq).toNat)
  case atStart => exact ⟨0, _, [], by omega, rfl, R0, L2, M2, b2, K2, by omega⟩
  case round =>
    clear R0 L2 M2 b2 K2 hz2
    obtain ⟨q, v, ys, hq, rfl, HO, L, M, bk, kr, hzr⟩ := hrel
    by_cases hlt : q < nt
    · have hlt' : (q : Int) < nt := by omega
      obtain ⟨x, hx⟩ : ∃ x, l[q]? = some x := ⟨l[q]'(by have := HLT.out; omega), List.getElem?_eq_getElem _⟩
      obtain ⟨gc, oc, cc, ⟨a0, a1, a2, a3, a4⟩, hr⟩ := HTR.out q x hx
      have hpc := HPC.out x (List.mem_of_getElem? hx)
      have hbc := HBC.out x (List.mem_of_getElem? hx)
      have e0 := kr.cell a0
      have e1 := kr.cell a1
      have e2 := kr.cell a2
      have e3 := kr.cell a3
      have e4 := kr.cell a4
      have HX := Lib.hid hx
      have CC : Hid (∀ w', Kp w w' → Calls Tryz.prog 33 #[.slice (some ⟨gc, oc, none⟩) x.cost.length cc] w' fun e w2 => ∃ g' c', e = .returned (.slice (some ⟨g', 0, none⟩) x.cost.length c') ∧ OwnI w2 w'.heap.size (.slice (some ⟨g', 0, none⟩) x.cost.length c') x.cost ∧ Kp w' w2) := Lib.hid fun w' k => l1Own_any gc oc x.cost.length cc x.cost w' (hr.keep k) rfl hbc hpc
      clear a0 a1 a2 a3 a4 hr hpc hbc hx
      obtain ⟨nm, cost, sh, hg, bl⟩ := x
      simp only at e0 e1 e2 e3 e4 CC
      obtain ⟨nq, hnq⟩ : ∃ n, cost.length = n := ⟨_, rfl⟩
      rw [hnq] at e1 CC
      have HNQ := Lib.hid hnq
      have kA : Kp wr (wr.alloc (.cells #[.string nm, .slice (some ⟨gc, oc, none⟩) nq cc, .int .i64 sh, .int .i64 hg, .bool bl] 65)) := (Kp.refl wr).alloc _
      have t0 : ∀ w2, Kp (wr.alloc (.cells #[.string nm, .slice (some ⟨gc, oc, none⟩) nq cc, .int .i64 sh, .int .i64 hg, .bool bl] 65)) w2 → (w2.cell? ⟨wr.heap.size, 0, none⟩ = some (.string nm) ∧ w2.frozen? ⟨wr.heap.size, 0, none⟩ = false) ∧ (w2.cell? ⟨wr.heap.size, 1, none⟩ = some (.slice (some ⟨gc, oc, none⟩) nq cc) ∧ w2.frozen? ⟨wr.heap.size, 1, none⟩ = false) ∧ (w2.cell? ⟨wr.heap.size, 2, none⟩ = some (.int .i64 sh) ∧ w2.frozen? ⟨wr.heap.size, 2, none⟩ = false) ∧ (w2.cell? ⟨wr.heap.size, 3, none⟩ = some (.int .i64 hg) ∧ w2.frozen? ⟨wr.heap.size, 3, none⟩ = false) ∧ (w2.cell? ⟨wr.heap.size, 4, none⟩ = some (.bool bl) ∧ w2.frozen? ⟨wr.heap.size, 4, none⟩ = false) := fun w2 k => ⟨k.liv ⟨by simp [go_sem], by simp [go_sem]⟩, k.liv ⟨by simp [go_sem], by simp [go_sem]⟩, k.liv ⟨by simp [go_sem], by simp [go_sem]⟩, k.liv ⟨by simp [go_sem], by simp [go_sem]⟩, k.liv ⟨by simp [go_sem], by simp [go_sem]⟩⟩
      have T0 := Lib.hid t0
      clear hnq t0
      go_wp2_with fail
      refine (CC.out _ (kr.trans kA)).mono ?_
      rintro e5 w2 ⟨g', c', rfl, o2, k2⟩
      obtain ⟨⟨p0, q0⟩, ⟨p1, q1⟩, ⟨p2, q2⟩, ⟨p3, q3⟩, ⟨p4, q4⟩⟩ := T0.out w2 k2
      go_upto_region 7 with (fail)
      have hne : g' ≠ wr.heap.size := by
        have := (World.ownsRow.lt o2 g' rfl).1
        simp at this
        omega
      have o2b : OwnI w2 wr.heap.size (.slice (some ⟨g', 0, none⟩) nq c') cost := o2.base (by simp)
      have k2r : Kp wr w2 := kA.trans k2
      have hzw2 := k2r.size
      obtain ⟨W2, hW2⟩ : ∃ W2, W2 = w2.setCell ⟨wr.heap.size, 1, none⟩ (.slice (some ⟨g', 0, none⟩) nq c') := ⟨_, rfl⟩
      have c0 : W2.cell? ⟨wr.heap.size, 0, none⟩ = some (.string nm) := by rw [hW2]; simp [go_sem, p0]
      have c1 : W2.cell? ⟨wr.heap.size, 1, none⟩ = some (.slice (some ⟨g', 0, none⟩) nq c') := by rw [hW2]; simp [go_sem, p1]
      have c2 : W2.cell? ⟨wr.heap.size, 2, none⟩ = some (.int .i64 sh) := by rw [hW2]; simp [go_sem, p2]
      have c3 : W2.cell? ⟨wr.heap.size, 3, none⟩ = some (.int .i64 hg) := by rw [hW2]; simp [go_sem, p3]
      have c4 : W2.cell? ⟨wr.heap.size, 4, none⟩ = some (.bool bl) := by rw [hW2]; simp [go_sem, p4]
      have LW : Live7 W2 (w.heap.size + 1 + 1) (v) (.slice (some ⟨gk, ok, none⟩) nk ck) (.int .i64 a) (.int .i64 b) (.int .i64 c) (.int .i64 d) (.int .i64 e) := by rw [hW2]; exact live7_off (live7_keep k2r L) (by omega)
      have MW : Live7 W2 (w.heap.size + 1) (.slice none 0 0) (.slice none 0 0) (.int .i64 0) (.int .i64 0) (.int .i64 0) (.int .i64 0) (.int .i64 0) := by rw [hW2]; exact live7_off (live7_keep k2r M) (by omega)
      have bW : W2.cell? ⟨w.heap.size, 1, none⟩ = some (.slice (some ⟨gk, ok, none⟩) nk ck) := by rw [hW2]; exact (World.cell?_setCell_other _ _ _ _ (fun e => by simp only [Addr.mk.injEq] at e; omega)).trans (k2r.cell bk)
      have KW : Kp w W2 := by rw [hW2]; exact (kr.trans k2r).setCell (show w.heap.size ≤ wr.heap.size by omega) _
      have hzW : wr.heap.size ≤ W2.heap.size := by rw [hW2]; simpa using hzw2
      have HROW : Hid (W2.ownsRow (w.heap.size + 3) 65 5 v q ys) := Lib.hid (by rw [hW2]; exact ownsRow_offB (ownsRow_keep HO.out.row k2r) (fun e => by have := (World.ownsRow.lt HO.out.row _ e).2; omega) _)
      have HMORE : Hid (∀ (v' : Value) (w3 : World), w3.ownsRow (w.heap.size + 3) 65 5 v' (q + 1) (ys ++ [.string nm, .slice (some ⟨g', 0, none⟩) nq c', .int .i64 sh, .int .i64 hg, .bool bl]) → (W2.alloc (.cells #[.string nm, .slice (some ⟨g', 0, none⟩) nq c', .int .i64 sh, .int .i64 hg, .bool bl] 65)).grownBy w3 v.ownBlock → (v'.ownBlock = v.ownBlock ∨ v'.ownBlock = some (W2.alloc (.cells #[.string nm, .slice (some ⟨g', 0, none⟩) nq c', .int .i64 sh, .int .i64 hg, .bool bl] 65)).heap.size) → RdO w3 (w.heap.size + 3) v' l (q + 1) (ys ++ [.string nm, .slice (some ⟨g', 0, none⟩) nq c', .int .i64 sh, .int .i64 hg, .bool bl])) := Lib.hid fun v' w3 h1 h2 h3 => HO.out.more HX.out HNQ.out k2r o2b (by omega) (fun o hb => World.ownsRow.alloc (by rw [hW2]; exact ownsRow_offB o (fun e => hb _ e rfl) _) _) hne (by rw [hW2]; simp) h1 h2 h3
      rw [← hW2]
      clear hW2 o2 o2b k2 k2r kA L M bk kr e0 e1 e2 e3 e4 p0 p1 p2 p3 p4 q0 q1 q2 q3 q4 HO HX HNQ T0 CC hne
      go_wp2_with (at_builtin; refine wpList_append_own_at _ rfl (.tmp 20) (.tmp 22) 32 rfl (w.heap.size + 3) 65 j0 (tv ByteArray.empty none 0 0 0 0 false) 5 64 Tryz.underlying32 hj0 hz0 hs0 hb0 rfl (by decide) _ q ys rfl (World.ownsRow.alloc HROW.out _) ⟨W2.heap.size, 0, none⟩ 1 1 [.string nm, .slice (some ⟨g', 0, none⟩) nq c', .int .i64 sh, .int .i64 hg, .bool bl] rfl rfl (five_new _ _ _ _ _ _ _) (by simp [Value.oneCell']) (by simp only [maxLen]; omega) (by omega) (by simp; omega) ?_; intro v' w3 hown2 hgrow2 hnil2 hat2; clear hnil2; obtain ⟨gv, cv, rfl⟩ := ownsRow_blk hown2 (Nat.succ_pos q); have HM := Lib.hid (HMORE.out _ w3 hown2 hgrow2 hat2); have BL : Below (w.heap.size + 3) W2 w3 := (((Below.refl _ _).alloc (by omega) _).grown hgrow2 (by simp; omega) (fun k e => (World.ownsRow.lt HROW.out k e).1)); have L3 := live7_low BL (by omega) LW; have M3 := live7_low BL (by omega) MW; have b3 := (BL.cell (p := ⟨w.heap.size, 1, none⟩) (by simp)).trans bW; have K3 : Kp w w3 := (KW.alloc _).grown hgrow2 (fun k e => by have := (World.ownsRow.lt HROW.out k e).1; omega); have hz3 := BL.size; clear hown2 hgrow2 hat2 BL LW MW bW KW c0 c1 c2 c3 c4)
      go_roundw
      case rel => exact ⟨q + 1, _, _, by omega, by go_num, Lib.hid (HM.out.off (Or.inl (by omega)) _), live7_set0 L3, live7_off M3 (by omega), (World.cell?_setCell_other _ _ _ _ (fun e => by simp only [Addr.mk.injEq] at e; omega)).trans b3, K3.setCell (show w.heap.size ≤ w.heap.size + 1 + 1 by omega) _, by simp; omega⟩
      case measure => simp [intOf]; omega
    · obtain rfl : q = nt := by omega
      obtain ⟨k0, hk0, hkz0, hks0, hkb0⟩ := info_parts infoKnd
      have hcl : ∀ j, j < nk * 6 → ∃ v, w.cell? ⟨gk, ok + j, none⟩ = some v ∧ v.oneCell' = true := rows_cells (by decide) fun i hi => by
        obtain ⟨g', o', e, hc⟩ := HRK.out.2 h2
        simp only [Option.some.injEq, Addr.mk.injEq, and_true] at e
        obtain ⟨rfl, rfl⟩ := e
        exact knd_cells (hc i _ (List.getElem?_eq_getElem (by rw [HRK.out.1]; exact hi)))
      have HC := Lib.hid (grab_cells (kr.alloc (.cells #[] 76)) hcl)
      have H1 := Lib.hid (grab_one hcl)
      have HT : Hid (∀ (j : Nat) (x : Knd), m[j]? = some x → KndIn (grab w gk ok (nk * 6)) j x) := Lib.hid fun j x hx => by
        obtain ⟨g', o', e, hc⟩ := HRK.out.2 h2
        simp only [Option.some.injEq, Addr.mk.injEq, and_true] at e
        obtain ⟨rfl, rfl⟩ := e
        have hj := (List.getElem?_eq_some_iff.1 hx).1
        rw [HRK.out.1] at hj
        obtain ⟨a0, a1, a2, a3, a4, a5⟩ := hc j x hx
        exact ⟨grab_at (by omega) a0, grab_at (by omega) (by rw [← Nat.add_assoc]; exact a1), grab_at (by omega) (by rw [← Nat.add_assoc]; exact a2), grab_at (by omega) (by rw [← Nat.add_assoc]; exact a3), grab_at (by omega) (by rw [← Nat.add_assoc]; exact a4), grab_at (by omega) (by rw [← Nat.add_assoc]; exact a5)⟩
      have HG : Hid ((grab w gk ok (nk * 6)).length = nk * 6) := Lib.hid (grab_len _ _ _ _)
      generalize grab w gk ok (nk * 6) = zs at HC H1 HT HG
      have own0 : Hid ((wr.alloc (.cells #[] 76)).ownsRow wr.heap.size 76 6 (.slice (some ⟨wr.heap.size, 0, none⟩) 0 0) 0 []) := Lib.hid (World.ownsRow_lit wr _ 0 (Nat.le_refl _) (by decide) rfl)
      obtain ⟨g1, c1, rfl, _⟩ := HO.out.rd HLT.out h1
      have bk2 := ((Kp.refl wr).alloc (.cells #[] 76)).cell bk
      clear hcl bk
      go_wp2_with (at_builtin; refine wpList_append_own _ rfl (.tmp 26) (.tmp 28) 33 rfl wr.heap.size 76 k0 (kv ByteArray.empty 0 0 0 false 0) 6 56 Tryz.underlying33 hk0 hkz0 hks0 hkb0 rfl (by decide) _ 0 [] rfl own0.out ⟨gk, ok, none⟩ nk ck zs rfl HG.out HC.out H1.out (by simp only [maxLen]; omega) (by omega) (by simp) ?_; intro v' w3 hown2 hgrow2 hnil2; clear hnil2; have K3 : Kp w w3 := (kr.alloc _).grown hgrow2 (fun k e => by have h9 : wr.heap.size = k := Option.some.inj e; omega); have KW : Kp wr w3 := ((Kp.refl wr).alloc _).grown hgrow2 (fun k e => by have h9 : wr.heap.size = k := Option.some.inj e; omega); rw [Nat.zero_add, List.nil_append] at hown2; obtain ⟨g2, c2, rfl⟩ := ownsRow_blk hown2 h2; have O3 := Lib.hid hown2; have L3 := live7_keep KW L; have M3 := live7_keep KW M; have HO3 := Lib.hid (HO.out.keep KW); have hz3 := KW.size; clear hown2 hgrow2 L M)
      have lo2 := World.ownsRow.lt O3.out g2 rfl
      refine bodyPost_ret (v := rv (.slice (some ⟨g1, 0, none⟩) q c1) (.slice (some ⟨g2, 0, none⟩) nk c2) a b c d e) (by simp [results, Tryz.results14, go_sem, *]) rfl ⟨g1, g2, c1, c2, rfl, ?_, ?_, ?_⟩
      · exact ⟨ys, (((((((HO3.out.off (Or.inl (by omega)) _).off (Or.inl (by omega)) _).off (Or.inl (by omega)) _).off (Or.inl (by omega)) _).off (Or.inl (by omega)) _).off (Or.inl (by omega)) _).off (Or.inl (by omega)) _).off (Or.inl (by omega)) _⟩
      · exact ⟨wr.heap.size, zs, hzr, ownRow_far (ownRow_far (ownRow_far (ownRow_far (ownRow_far (ownRow_far (ownRow_far (ownRow_far O3.out (by omega) _) (by omega) _) (by omega) _) (by omega) _) (by omega) _) (by omega) _) (by omega) _) (by omega) _, HT.out, HRK.out.1, by omega⟩
      · exact (((((((K3.setCell (show w.heap.size ≤ w.heap.size + 1 + 1 by omega) _).setCell (show w.heap.size ≤ w.heap.size + 1 by omega) _).setCell (show w.heap.size ≤ w.heap.size + 1 by omega) _).setCell (show w.heap.size ≤ w.heap.size + 1 by omega) _).setCell (show w.heap.size ≤ w.heap.size + 1 by omega) _).setCell (show w.heap.size ≤ w.heap.size + 1 by omega) _).setCell (show w.heap.size ≤ w.heap.size + 1 by omega) _).setCell (show w.heap.size ≤ w.heap.size + 1 by omega) _

end Go.Proofs.YtmolpkjdjkhnpaaGreatDoor
