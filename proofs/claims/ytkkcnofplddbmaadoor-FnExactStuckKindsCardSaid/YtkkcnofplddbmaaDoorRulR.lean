/-
  The laws' copy of rules: the same lists and numbers, in memory of its own. Nothing that was there is changed.
-/
import Derived.Test.YtkkcnofplddbmaaDoorRulC
import Derived.Test.YtkkcnofplddbmaaDoorIsRulesI
namespace Go.Proofs.YtkkcnofplddbmaaDoor
open Go.RowKit

theorem keepc7 {w w1 : World} {p0 p1 p2 p3 p4 p5 p6 : Addr} {v0 v1 v2 v3 v4 v5 v6 : Value} (k : Kp w w1) (h : w.cell? p0 = some v0 ∧ w.cell? p1 = some v1 ∧ w.cell? p2 = some v2 ∧ w.cell? p3 = some v3 ∧ w.cell? p4 = some v4 ∧ w.cell? p5 = some v5 ∧ w.cell? p6 = some v6) : w1.cell? p0 = some v0 ∧ w1.cell? p1 = some v1 ∧ w1.cell? p2 = some v2 ∧ w1.cell? p3 = some v3 ∧ w1.cell? p4 = some v4 ∧ w1.cell? p5 = some v5 ∧ w1.cell? p6 = some v6 :=
  ⟨k.cell h.1, k.cell h.2.1, k.cell h.2.2.1, k.cell h.2.2.2.1, k.cell h.2.2.2.2.1, k.cell h.2.2.2.2.2.1, k.cell h.2.2.2.2.2.2⟩
abbrev Live7 (w : World) (b : Nat) (v0 v1 v2 v3 v4 v5 v6 : Value) : Prop :=
  (w.cell? ⟨b, 0, none⟩ = some v0 ∧ w.frozen? ⟨b, 0, none⟩ = false) ∧ (w.cell? ⟨b, 1, none⟩ = some v1 ∧ w.frozen? ⟨b, 1, none⟩ = false) ∧ (w.cell? ⟨b, 2, none⟩ = some v2 ∧ w.frozen? ⟨b, 2, none⟩ = false) ∧ (w.cell? ⟨b, 3, none⟩ = some v3 ∧ w.frozen? ⟨b, 3, none⟩ = false) ∧ (w.cell? ⟨b, 4, none⟩ = some v4 ∧ w.frozen? ⟨b, 4, none⟩ = false) ∧ (w.cell? ⟨b, 5, none⟩ = some v5 ∧ w.frozen? ⟨b, 5, none⟩ = false) ∧ (w.cell? ⟨b, 6, none⟩ = some v6 ∧ w.frozen? ⟨b, 6, none⟩ = false)
theorem live7_keep {w w' : World} {b : Nat} {v0 v1 v2 v3 v4 v5 v6 : Value} (k : Kp w w') (h : Live7 w b v0 v1 v2 v3 v4 v5 v6) : Live7 w' b v0 v1 v2 v3 v4 v5 v6 :=
  ⟨k.liv h.1, k.liv h.2.1, k.liv h.2.2.1, k.liv h.2.2.2.1, k.liv h.2.2.2.2.1, k.liv h.2.2.2.2.2.1, k.liv h.2.2.2.2.2.2⟩

theorem ownRow_far {w : World} {base g n sz cap : Nat} {e : TypeId} {ys : List Value} (h : w.ownsRow base e sz (.slice (some ⟨g, 0, none⟩) n cap) n ys) {b j : Nat} (hb : b < base) (u : Value) : (w.setCell ⟨b, j, none⟩ u).ownsRow base e sz (.slice (some ⟨g, 0, none⟩) n cap) n ys :=
  ownsRow_setCell_below h (a := ⟨b, j, none⟩) hb u
theorem OwnT.far {w : World} {g n : Nat} {l : List Ter} {cs : List (Option Addr × Nat)} {ys : List Value} (h : OwnT w g n l cs ys) {b j : Nat} (hb : b < g) (u : Value) : OwnT (w.setCell ⟨b, j, none⟩ u) g n l cs ys :=
  ⟨ownRow_far h.row hb u, h.here, fun i x c hx hc => (h.each i x c hx hc).far ((h.each i x c hx hc).not (by omega)) u, h.apart⟩
theorem OwnK.far {w : World} {g n : Nat} {l : List Knd} {ys : List Value} (h : OwnK w g n l ys) {b j : Nat} (hb : b < g) (u : Value) : OwnK (w.setCell ⟨b, j, none⟩ u) g n l ys :=
  ⟨ownRow_far h.row hb u, h.here⟩

/-- Copied rules: the terrains' row, their costs, the kinds' row, in blocks of their own from a number on. -/
structure OwnR (w : World) (base g1 g2 nt nk : Nat) (l : List Ter) (m : List Knd) (cs : List (Option Addr × Nat)) (ys zs : List Value) : Prop where
  t : OwnT w g1 nt l cs ys
  k : OwnK w g2 nk m zs
  lc : cs.length = nt
  lt : l.length = nt
  lk : m.length = nk
  b : base ≤ g1
  g : g1 < g2
  z : g2 < w.heap.size
  mid : ∀ (j : Nat) (c : Option Addr × Nat) (x k : Nat), cs[j]? = some c → (Value.slice c.1 x c.2).ownBlock = some k → g1 < k ∧ k < g2
theorem OwnR.keep {w w' : World} {base g1 g2 nt nk : Nat} {l : List Ter} {m : List Knd} {cs : List (Option Addr × Nat)} {ys zs : List Value} (h : OwnR w base g1 g2 nt nk l m cs ys zs) (k : Kp w w') : OwnR w' base g1 g2 nt nk l m cs ys zs :=
  ⟨h.t.keep k, h.k.keep k, h.lc, h.lt, h.lk, h.b, h.g, Nat.lt_of_lt_of_le h.z k.size, h.mid⟩
theorem OwnR.rul {w w0 : World} {At Ak : Option Addr} {base g1 g2 nt nk : Nat} {l : List Ter} {m : List Knd} {cs : List (Option Addr × Nat)} {ys zs : List Value} (h : OwnR w base g1 g2 nt nk l m cs ys zs) (r : RulAt w0 At Ak nt nk l m) : RulAt w (some ⟨g1, 0, none⟩) (some ⟨g2, 0, none⟩) nt nk l m :=
  ⟨h.t.rd h.lt h.lc, h.k.rd h.lk, r.bt, r.bk, r.bc, r.bn⟩

set_option maxRecDepth 100000 in
set_option maxHeartbeats 2000000 in
theorem toRules_any (At Ak : Option Addr) (nt nk ct ck : Nat) (l : List Ter) (m : List Knd) (a b c d e : Int) (w : World) (h : RulAt w At Ak nt nk l m) :
    Calls Tryd.prog 15 #[rv (.slice At nt ct) (.slice Ak nk ck) a b c d e] w fun e' w' => ∃ (g1 g2 : Nat) (cs : List (Option Addr × Nat)) (ys zs : List Value), e' = .returned (rv (.slice (some ⟨g1, 0, none⟩) nt nt) (.slice (some ⟨g2, 0, none⟩) nk nk) a b c d e) ∧ OwnR w' w.heap.size g1 g2 nt nk l m cs ys zs ∧ Kp w w' := by
  have HL := Lib.hid h
  have hb1 := h.bt
  have hb2 := h.bk
  have HBC : Hid (∀ x ∈ l, x.cost.length ≤ 1048576) := Lib.hid fun x hx => (h.bc x hx).1
  clear h
  go_enter Tryd.func15, Tryd.ntmps15
  go_wp2_with fail
  have k0 : Kp w (((w.alloc (.cells #[.slice At nt ct, .slice Ak nk ck, .int .i64 a, .int .i64 b, .int .i64 c, .int .i64 d, .int .i64 e] 25)).alloc (.cells #[.slice none 0 0, .slice none 0 0, .int .i64 0, .int .i64 0, .int .i64 0, .int .i64 0, .int .i64 0] 31)).alloc (.cells #[.slice none 0 0, .slice none 0 0, .int .i64 0, .int .i64 0, .int .i64 0, .int .i64 0, .int .i64 0] 31)) := (((Kp.refl w).alloc _).alloc _).alloc _
  refine (toTerrainS_any _ _ _ l _ (HL.out.keep k0).rt hb1 HBC.out).mono ?_
  rintro e1 w1 ⟨cs, ys, rfl, hcs, o1, k1⟩
  have a1 : w1.cell? ⟨w.heap.size, 1, none⟩ = some (.slice Ak nk ck) := k1.cell (by simp [go_sem])
  have a2 : w1.cell? ⟨w.heap.size, 2, none⟩ = some (.int .i64 a) := k1.cell (by simp [go_sem])
  have a3 : w1.cell? ⟨w.heap.size, 3, none⟩ = some (.int .i64 b) := k1.cell (by simp [go_sem])
  have a4 : w1.cell? ⟨w.heap.size, 4, none⟩ = some (.int .i64 c) := k1.cell (by simp [go_sem])
  have a5 : w1.cell? ⟨w.heap.size, 5, none⟩ = some (.int .i64 d) := k1.cell (by simp [go_sem])
  have a6 : w1.cell? ⟨w.heap.size, 6, none⟩ = some (.int .i64 e) := k1.cell (by simp [go_sem])
  have L1 : Live7 w1 (w.heap.size + 1) (.slice none 0 0) (.slice none 0 0) (.int .i64 0) (.int .i64 0) (.int .i64 0) (.int .i64 0) (.int .i64 0) := live7_keep k1 ⟨by simp [go_sem], by simp [go_sem], by simp [go_sem], by simp [go_sem], by simp [go_sem], by simp [go_sem], by simp [go_sem]⟩
  have M1 : Live7 w1 (w.heap.size + 1 + 1) (.slice none 0 0) (.slice none 0 0) (.int .i64 0) (.int .i64 0) (.int .i64 0) (.int .i64 0) (.int .i64 0) := live7_keep k1 ⟨by simp [go_sem], by simp [go_sem], by simp [go_sem], by simp [go_sem], by simp [go_sem], by simp [go_sem], by simp [go_sem]⟩
  have K1 : Kp w w1 := k0.trans k1
  have z1 : w.heap.size + 3 < w1.heap.size := by
    have := World.ownsRow.lt o1.row _ rfl
    simp at this
    omega
  have eg : (((w.alloc (.cells #[.slice At nt ct, .slice Ak nk ck, .int .i64 a, .int .i64 b, .int .i64 c, .int .i64 d, .int .i64 e] 25)).alloc (.cells #[.slice none 0 0, .slice none 0 0, .int .i64 0, .int .i64 0, .int .i64 0, .int .i64 0, .int .i64 0] 31)).alloc (.cells #[.slice none 0 0, .slice none 0 0, .int .i64 0, .int .i64 0, .int .i64 0, .int .i64 0, .int .i64 0] 31)).heap.size = w.heap.size + 3 := by simp
  rw [eg] at o1 ⊢
  have O1 := Lib.hid o1
  have HC := Lib.hid hcs
  clear k0 k1 o1 hcs eg
  go_wp2_with fail
  have K1' : Kp w (w1.setCell ⟨w.heap.size + 1 + 1, 0, none⟩ (.slice (some ⟨w.heap.size + 3, 0, none⟩) nt nt)) := K1.setCell (by simp <;> omega) _
  refine (toKindS_any _ _ _ m _ (HL.out.keep K1').rk hb2).mono ?_
  rintro e2 w2 ⟨zs, rfl, o2, k2⟩
  have b2 : w2.cell? ⟨w.heap.size, 2, none⟩ = some (.int .i64 a) := k2.cell (by simp [go_sem, *])
  have b3 : w2.cell? ⟨w.heap.size, 3, none⟩ = some (.int .i64 b) := k2.cell (by simp [go_sem, *])
  have b4 : w2.cell? ⟨w.heap.size, 4, none⟩ = some (.int .i64 c) := k2.cell (by simp [go_sem, *])
  have b5 : w2.cell? ⟨w.heap.size, 5, none⟩ = some (.int .i64 d) := k2.cell (by simp [go_sem, *])
  have b6 : w2.cell? ⟨w.heap.size, 6, none⟩ = some (.int .i64 e) := k2.cell (by simp [go_sem, *])
  have L2 : Live7 w2 (w.heap.size + 1) (.slice none 0 0) (.slice none 0 0) (.int .i64 0) (.int .i64 0) (.int .i64 0) (.int .i64 0) (.int .i64 0) := live7_keep k2 ⟨by simp [go_sem, *], by simp [go_sem, *], by simp [go_sem, *], by simp [go_sem, *], by simp [go_sem, *], by simp [go_sem, *], by simp [go_sem, *]⟩
  have M2 : Live7 w2 (w.heap.size + 1 + 1) (.slice (some ⟨w.heap.size + 3, 0, none⟩) nt nt) (.slice none 0 0) (.int .i64 0) (.int .i64 0) (.int .i64 0) (.int .i64 0) (.int .i64 0) := live7_keep k2 ⟨by simp [go_sem, *], by simp [go_sem, *], by simp [go_sem, *], by simp [go_sem, *], by simp [go_sem, *], by simp [go_sem, *], by simp [go_sem, *]⟩
  have K2 : Kp w w2 := K1'.trans k2
  have O2 := Lib.hid (((O1.out.far (b := w.heap.size + 1 + 1) (by omega) (.slice (some ⟨w.heap.size + 3, 0, none⟩) nt nt) (j := 0))).keep k2)
  have eg : (w1.setCell ⟨w.heap.size + 1 + 1, 0, none⟩ (.slice (some ⟨w.heap.size + 3, 0, none⟩) nt nt)).heap.size = w1.heap.size := by simp
  rw [eg] at o2 ⊢
  have z2 : w1.heap.size < w2.heap.size := by
    have := World.ownsRow.lt o2.row _ rfl
    omega
  have P2 := Lib.hid o2
  have MID : Hid (∀ (j : Nat) (c : Option Addr × Nat) (x k : Nat), cs[j]? = some c → (Value.slice c.1 x c.2).ownBlock = some k → w.heap.size + 3 < k ∧ k < w1.heap.size) := Lib.hid fun j c x k hc hk => by
    have hj := lt_of_at hc
    have hx : l[j]? = some (l[j]'(by have := HC.out; have := HL.out.rt.1; omega)) := List.getElem?_eq_getElem _
    have := World.ownsRow.lt (O1.out.each j _ c hx hc) k ((ownBlock_len _ _ _ _).trans hk)
    omega
  generalize hg2 : w1.heap.size = G2 at *
  clear K1' k2 o2 a1 a2 a3 a4 a5 a6 L1 M1 K1 O1 eg hg2
  go_wp2_with fail
  refine bodyPost_ret (v := rv (.slice (some ⟨w.heap.size + 3, 0, none⟩) nt nt) (.slice (some ⟨G2, 0, none⟩) nk nk) a b c d e) (by simp [results, Tryd.results15, go_sem, *]) rfl ⟨_, _, cs, ys, zs, rfl, ⟨?_, ?_, HC.out, HL.out.rt.1, HL.out.rk.1, by omega, z1, by simpa using z2, MID.out⟩, ?_⟩
  · exact (((((((((((((O2.out.far (by omega) _).far (by omega) _).far (by omega) _).far (by omega) _).far (by omega) _).far (by omega) _).far (by omega) _).far (by omega) _).far (by omega) _).far (by omega) _).far (by omega) _).far (by omega) _).far (by omega) _)
  · exact (((((((((((((P2.out.far (by omega) _).far (by omega) _).far (by omega) _).far (by omega) _).far (by omega) _).far (by omega) _).far (by omega) _).far (by omega) _).far (by omega) _).far (by omega) _).far (by omega) _).far (by omega) _).far (by omega) _)
  · exact (((((((((((((K2.setCell (by simp <;> omega) _).setCell (by simp <;> omega) _).setCell (by simp <;> omega) _).setCell (by simp <;> omega) _).setCell (by simp <;> omega) _).setCell (by simp <;> omega) _).setCell (by simp <;> omega) _).setCell (by simp <;> omega) _).setCell (by simp <;> omega) _).setCell (by simp <;> omega) _).setCell (by simp <;> omega) _).setCell (by simp <;> omega) _).setCell (by simp <;> omega) _)

end Go.Proofs.YtkkcnofplddbmaaDoor
